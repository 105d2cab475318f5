import PyProof.Rows.All
import Wide.All
import OpenK.AllK
import Wide.FinOn
import Lean
import PyProof.EqAt
import PyProof.EqKinds
import PyProof.TupleCall
import PySem.Challenge.RW_holebook_k64_a_round_pushed
set_option linter.all false
set_option Elab.async false
set_option maxRecDepth 100000
set_option maxHeartbeats 4000000
noncomputable section
def qa0:=@List.getElem?_eq_getElem
def qa1:=@PySem.wpAny_bind
def qa2:=@List.getElem?_eq_some_iff
def qa3:=@List.length_map
def qa4:=@PySem.Heap.get?_push_of_some
def qa5:=@List.getD_eq_getElem?_getD
def qa6:=@PySem.wpAny_pure
def qa7:=@List.getElem?_map
def qa8:=@Nat.le_refl
def qa9:=@PySem.Heap.lt_size
def qb0:=@List.mem_cons_of_mem
def qb1:=@List.map_append
def qb2:=@List.mem_cons_self
def qb3:=@PySem.Heap.get?_push_size
def qb4:=@Bool.and_eq_true
def qb5:=@List.mem_of_getElem?
def qb6:=@Nat.zero_le
def qb7:=@List.mem_singleton
def qb8:=@Nat.ne_of_lt
def qb9:=@List.take_length
def qc0:=@List.mem_cons
def qc1:=@List.size_toArray
def qc2:=@Bool.false_ne_true
def qc3:=@PySem.PassesOwn.never
def qc4:=@List.length_take
def qc5:=@Nat.lt_of_lt_of_le
def qc6:=@List.map_cons
def qc7:=@List.getElem_mem
def qc8:=@List.all_eq_true
def qc9:=@of_decide_eq_true
def qd0:=@Int.toNat_natCast
def qd1:=@List.length_append
def qd2:=@PySem.W.mg_of
def qd3:=@decide_eq_true
def qd4:=@Option.some.inj
def qd5:=@PySem.F.plainAttrs_list
def qd6:=@List.mem_append
def qd7:=@Nat.le_of_ble_eq_true
def qd8:=@List.mem_map
def qd9:=@List.length_cons
def qe0:=@PySem.F.type_list_append
def qe1:=@PySem.F.slot_list_append
def qe2:=@PySem.wpAny_mono
def qe3:=@decide_eq_false
def qe4:=@PySem.boot_len
def qe5:=@Nat.le_trans
def qe6:=@List.mem_range
def qe7:=@PySem.Heap.get?_update_other
def qe8:=@List.mem_append_right
def qe9:=@PySem.wpAny_loadPart_at
def qf0:=@List.take_add_one
def qf1:=@List.take_succ
def qf2:=@Int.emod_lt_of_pos
def qf3:=@PySem.wpAny_holding
def qf4:=@List.nodup_cons
def qf5:=@PySem.wpAny_call_entry
def qf6:=@PySem.wpAny_dictEntries
def qf7:=@List.length_nil
def qf8:=@List.append_nil
def qf9:=@PySem.Heap.get?_update_self
def qg0:=@PySem.wpAny_newObj_type
def qg1:=@List.mem_filter
def qg2:=@PySem.wpAny_setField_rec
def qg3:=@List.mem_map_of_mem
def qg4:=@List.map_congr_left
def qg5:=@PySem.Calls.callWith_builtin
def qg6:=@List.getElem?_eq_none
def qg7:=@PySem.wpAny_field
def qg8:=@PySem.wpAny_truthy_bool
def qg9:=@PyProof.Rows.callWith_type1
def qh0:=@Int.emod_nonneg
def qh1:=@List.getElem_of_mem
def qh2:=@PySem.W.mg_none_of
def qh3:=@List.length_singleton
def qh4:=@Bool.eq_iff_iff
def qh5:=@List.mem_of_mem_take
def qh6:=@PySem.F.plainAttrs_dict
def qh7:=@Nat.lt_irrefl
def qh8:=@List.any_cons
def qh9:=@List.map_map
def qi0:=@PySem.W.hideAll_get
def qi1:=@List.replicate_succ
def qi2:=@PySem.F.plain_min_loop
def qi3:=@PySem.F.plain_max_loop
def qi4:=@List.not_mem_nil
def qi5:=@Nat.ne_of_gt
def qi6:=@List.length_filter_le
def qi7:=@List.nodup_nil
def qi8:=@List.getElem?_of_mem
def qi9:=@PySem.wpAny_Call_Name_kw
def qj0:=@PySem.Heap.size_push
def qj1:=@List.map_nil
def qj2:=@beq_eq_false_iff_ne
def qj3:=@PySem.F.slot_dict_items
def qj4:=@List.map_take
def qj5:=@Int.eq_ofNat_of_zero_le
def qj6:=@PySem.Around.under_plainId
def qj7:=@List.take_append_of_le_length
def qj8:=@List.any_eq_true
def qj9:=@PySem.wpAny_typeNameOfWhole_itemiter
def qk0:=@PySem.W.kia_one
def qk1:=@PySem.F.slot_dict_itemiterator_next
def qk2:=@decide_eq_true_eq
def qk3:=@PySem.Calls.spliced_cons
def qk4:=@List.mem_append_left
def qk5:=@PySem.wpAny_passesOwn
def qk6:=@PySem.wpAny_notOrdered_dict
def qk7:=@PySem.wpAny_letGo
def qk8:=@PySem.wpAny_dictEpoch
def qk9:=@List.getElem?_append_left
def ql0:=@Array.getElem?_eq_getElem
def ql1:=@Nat.succ_ne_self
def ql2:=@List.lookup_cons
def ql3:=@PySem.wpAny_pyIter_list
def ql4:=@PySem.mem_of_lookup
def ql5:=@PySem.F.slot_tuple_iterator_next
def ql6:=@PySem.Calls.evalArgs_plain
def ql7:=@PySem.wpAny_typeNameOf_itemiter
def ql8:=@PySem.wpAny_tryCatch
def ql9:=@PySem.wpAny_seqItems
def qm0:=@PySem.W.callWith_K
def qm1:=@List.range_succ
def qm2:=@List.nil_append
def qm3:=@List.find?_cons
def qm4:=@List.filter_cons_of_neg
def qm5:=@List.length_eq_one_iff
def qm6:=@List.pairwise_map
def qm7:=@List.flatten_cons
def qm8:=@PySem.wpAny_updateSeq
def qm9:=@List.length_replicate
def qn0:=@List.length_drop
def qn1:=@PySem.wpAny_isOneOf_itemiter
def qn2:=@PyProof.Rows.TI.same
def qn3:=@Array.mem_toList_iff
def qn4:=@PySem.evalArgs_none
def qn5:=@List.filter_nil
def qn6:=@PySem.F.slot_enumerate_next
def qn7:=@PySem.wpAny_isInstance
def qn8:=@PySem.F.slot_bool_hash
def qn9:=@List.mem_filterMap
def qo0:=@List.getElem?_take
def qo1:=@Bool.false_eq_true
def qo2:=@PySem.Paired.length
def qo3:=@PySem.wpAny_execs_nil
def qo4:=@PySem.F.args_tuple_add_2
def qo5:=@Nat.lt_succ_of_lt
def qo6:=@List.any_eq_false
def qo7:=@PySem.Heap.SameBut.update
def qo8:=@PySem.F.type_dict_items
def qo9:=@PySem.F.entry_tuple_add
def qp0:=@Nat.le_succ
def qp1:=@List.length_eq_zero_iff
def qp2:=@List.getElem?_cons_zero
def qp3:=@List.filter_cons_of_pos
def qp4:=@PySem.wpAny_pyIter_tuple
def qp5:=@List.filter_cons
def qp6:=@PySem.W.cellsFrom_some
def qp7:=@PySem.F.slot_tuple_add
def qp8:=@Option.map_eq_some_iff
def qp9:=@PySem.wpAny_pyIter_enum
def qq0:=@PySem.wpAny_call
def qq1:=@PySem.F.slot_dict_pop
def qq2:=@PySem.F.slot_dict_get
def qq3:=@List.of_mem_zip
def qq4:=@PySem.Calls.spliced_nil
def qq5:=@Bool.or_eq_true
def qq6:=@Std.Legacy.Range.forIn_eq_forIn_range'
def qq7:=@PySem.wpAny_standAt
def qq8:=@PySem.wpAny_Call_method0_late
def qq9:=@PySem.F.slot_dict_ne
def qr0:=@List.getElem?_set_ne
def qr1:=@List.getElem?_append
def qr2:=@PySem.F.slot_dict_itemiterator_iter
def qr3:=@List.length_pos_iff
def qr4:=@List.filterMap_cons
def qr5:=@Array.length_toList
def qr6:=@PySem.W.of_hideAll
def qr7:=@List.map_drop
def qr8:=@List.findIdx?_cons
def qr9:=@List.filter_append
def qs0:=@List.contains_cons
def qs1:=@List.Nodup.sublist
def qs2:=@Int.mul_assoc
def qs3:=@PySem.F.typeOf_object_class
def qs4:=@Bool.or_false
def qs5:=@Bool.false_or
def qs6:=@List.findIdx_lt_length_of_exists
def qs7:=@PyProof.Rows.slot_tuple_getitem
def qs8:=@List.all_eq_false
def qs9:=@PySem.Heap.get?_none_of_le
def qt0:=@Bool.eq_false_iff
def qt1:=@PySem.wpAny_fieldsOf
def qt2:=@PyProof.Rows.callWith_builtin1
def qt3:=@Nat.le_of_lt
def qt4:=@List.any_nil
def qt5:=@List.all_map
open PySem in
abbrev LLInt:=List (List Int)
open PySem in
abbrev LAObj:=List (Addr × Obj)
open PySem in
abbrev Bs:=Array (Option Value)
open PySem in
abbrev OAddr:=Option Addr
namespace L2
open PySem PySem.Spec PyProof.Rows
abbrev Key:=Sum Int Str
noncomputable def Yk:Key->Value->Bool
 | .inl k,v=>Value.isInt k v
 | .inr x,v=>Value.isStrOf x v
noncomputable def Ad4(w:World):Key->Int
 | .inl k=>hashInt k
 | .inr x=>hashStr w x
theorem Ci:∀{k:Key}{v:Value},Yk k v=true->(∃i t,k=Sum.inl i/\v=Value.int i t)\/(∃x t,k=Sum.inr x/\v=Value.str x t)
 | .inl i,v,h=>by
   obtain⟨t,e⟩:=Value.isInt_shape (k:=i) (v:=v) h;exact .inl ⟨i,t,rfl,e⟩
 | .inr x,v,h=>by
   obtain⟨t,e⟩:=Value.isStrOf_shape (x:=x) (v:=v) h;exact .inr ⟨x,t,rfl,e⟩
def jO(i:Int)(t:Tok):Yk (.inl i) (.int i t)=true:=by simp[Yk,Value.isInt]
def JN(x:Str)(t:Tok):Yk (.inr x) (.str x t)=true:=by simp[Yk,Value.isStrOf]
def UY(a b:Int):decide ((Sum.inl a:Key)=Sum.inl b)=(a==b):=by
 by_cases e:a=b
 . subst e;simp
 . have h:¬(Sum.inl a:Key)=Sum.inl b:=fun q=>e (Sum.inl.inj q);rw[qe3 h];exact(qj2.mpr e).symm
def uX(a b:Str):decide ((Sum.inr a:Key)=Sum.inr b)=decide (a=b):=by
 by_cases e:a=b
 . subst e;simp
 . have h:¬(Sum.inr a:Key)=Sum.inr b:=fun q=>e (Sum.inr.inj q);rw[qe3 h,qe3 e]
def uY(a:Int)(b:Str):decide ((Sum.inl a:Key)=Sum.inr b)=false:=qe3 (fun q=>nomatch q)
def UX(a:Str)(b:Int):decide ((Sum.inr a:Key)=Sum.inl b)=false:=qe3 (fun q=>nomatch q)
def mixKind(prog:Program)(w:World):PySem.KeyKind prog w Key where
 is:=Yk
 hash:=Ad4 w
 inj:=fun v a b ha hb=>by
  rcases Ci ha with⟨i,t,rfl,rfl⟩|⟨x,t,rfl,rfl⟩
  . rcases Ci hb with⟨j,u,rfl,e⟩|⟨y,u,rfl,e⟩
    . injection e with e1 _;rw[e1]
    . exact nomatch e
  . rcases Ci hb with⟨j,u,rfl,e⟩|⟨y,u,rfl,e⟩
    . exact nomatch e
    . injection e with e1 _;rw[e1]
 byValue:=fun k v h=>by
  rcases Ci h with⟨i,t,rfl,rfl⟩|⟨x,t,rfl,rfl⟩<;>rfl
 pyHash:=fun hv h=>by
  rcases Ci hv with⟨i,t,rfl,rfl⟩|⟨x,t,rfl,rfl⟩
  . exact wpAny_pyHash_int h
  . exact wpAny_pyHash_str h
 eqBool:=fun hu hv h=>by
  rcases Ci hu with⟨i,t,rfl,rfl⟩|⟨x,t,rfl,rfl⟩
  . rcases Ci hv with⟨j,u,rfl,rfl⟩|⟨y,u,rfl,rfl⟩
    . rw[UY]at h;exact wpAny_eqBool_int h
    . rw[uY]at h;exact SeqAt.EqAt.int_str i t y u _ _ _ _ h
  . rcases Ci hv with⟨j,u,rfl,rfl⟩|⟨y,u,rfl,rfl⟩
    . rw[UX]at h;exact SeqAt.EqAt.str_int x t j u _ _ _ _ h
    . rw[uX]at h;exact wpAny_eqBool_str h
 «strs»:=fun k x t v h=>by
  rcases Ci h with⟨i,u,rfl,e⟩|⟨y,u,rfl,e⟩
  . exact nomatch e
  . injection e with e1 _;subst e1;cases v<;>rfl
def BP(prog:Program)(w:World)(i:Int)(t:Tok):(mixKind prog w).is (.inl i) (.int i t)=true:=jO i t
def bP(prog:Program)(w:World)(x:Str)(t:Tok):(mixKind prog w).is (.inr x) (.str x t)=true:=JN x t
inductive V where
 | non | bl (b:Bool) | int (i:Int) | str (x:Str) | byt (b:Array UInt8) | flt (b:UInt64) | ref (a:Addr) | ty (n:String)
 deriving DecidableEq
noncomputable abbrev rS(a:Addr):Option V:=some (.ref a)
noncomputable abbrev iS(i:Int):Option V:=some (.int i)
def RelV:V->Value->Prop
 | .non,u=>u=Value.none
 | .bl b,u=>u=Value.bool b
 | .int i,u=>∃t,u=Value.int i t
 | .str x,u=>∃t,u=Value.str x t
 | .byt b,u=>∃t,u=Value.bytes b t
 | .flt b,u=>∃t,u=Value.float b t
 | .ref a,u=>u=Value.ref a
 | .ty n,u=>u=Value.type n
abbrev Vals:List V->List Value->Prop:=Paired RelV
theorem Vals.length{xs:List V}{us:List Value}(r:Vals xs us):xs.length=us.length:=qo2 r
theorem Vals.get:∀{xs:List V}{us:List Value}{i:Nat}{x:V},Vals xs us->xs[i]?=some x->∃u,us[i]?=some u/\RelV x u
 | _,_,_,_,.nil,e=>by simp at e
 | _,_,0,_,.cons r _,e=>by simp at e;subst e;exact⟨_,rfl,r⟩
 | _,_,i+1,x,.cons _ t,e=>by
   obtain⟨u,h1,h2⟩:=Vals.get (i:=i) (x:=x) t (by simpa using e);exact⟨u,by simpa using h1,h2⟩
theorem Vals.append:∀{xs ys:List V}{us ws:List Value},Vals xs us->Vals ys ws->Vals (xs++ys) (us++ws)
 | _,_,_,_,.nil,s=>s
 | _,_,_,_,.cons r t,s=>.cons r (Vals.append t s)
theorem Vals.take:∀{xs:List V}{us:List Value} (n:Nat),Vals xs us->Vals (xs.take n) (us.take n)
 | _,_,0,_=>.nil
 | _,_,_+1,.nil=>.nil
 | _,_,n+1,.cons r t=>.cons r (Vals.take n t)
theorem Vals.drop:∀{xs:List V}{us:List Value} (n:Nat),Vals xs us->Vals (xs.drop n) (us.drop n)
 | _,_,0,r=>r
 | _,_,_+1,.nil=>.nil
 | _,_,n+1,.cons _ t=>Vals.drop n t
def RelO:Option V->Option Value->Prop
 | some v,some u=>RelV v u
 | none,none=>True
 | _,_=>False
def KV{κ:Type}:List (κ × V)->List (κ × Value)->Prop:=Paired fun(p:κ × V) (q:κ × Value)=>p.1=q.1/\RelV p.2 q.2
noncomputable def kV:Key->V
 | .inl i=>.int i
 | .inr x=>.str x
inductive HO where
 | lst (xs:List V)
 | tup (xs:List V)
 | dK (kvs:List (Key × V)) | dT (kvs:List (List Key × V))
 | set (S:Int->Bool) (n:Nat)
 | ins (C dx:Addr) (fs:List (Str × V))
 | own (x:Addr)
 | xd (fs:List (Str × V))
 | met (f x:Addr)
 | rng (lo hi:Int)
 | frz (o:Obj) (u:HO)
 | tbl (ps:Array Value)
 | ext (φ:Heap->Prop)
abbrev Hp:=Addr->Option HO
noncomputable def upd(H:Hp)(a:Addr)(o:HO):Hp:=fun b=>if b=a then some o else H b
def Ab{H:Hp}{a:Addr}{o:HO}:upd H a o a=some o:=by unfold upd;rw[if_pos rfl]
def Ai{H:Hp}{a b:Addr}{o:HO}(h:b≠a):upd H a o b=H b:=by unfold upd;rw[if_neg h]
def Yg{H:Hp}{a b:Addr}{o u:HO}(h:H a=some o)(h':H b=some u)(d:o≠u):a≠b:=by
 intro e;subst e;rw[h]at h';exact d (qd4 h')
def Ap{H:Hp}{a b:Addr}{o:HO}(h:H a=some o)(h':H b=none):a≠b:=by
 intro e;subst e;rw[h]at h';cases h'
def J7(h:Heap)(a:Addr)(items:Array Value):Prop:=∃o,h.get? a=some o/\o.cls=.type "tuple"/\o.dict=none/\∃n,o.data=.seq items n
def J7.tup{h:Heap}{a:Addr}{items:Array Value}(x:J7 h a items):IsTup h a items:=let ⟨o,e,c,_,d⟩:=x;⟨o,e,c,d⟩
theorem J7.lt{h:Heap}{a:Addr}{items:Array Value}(x:J7 h a items):a<h.objs.size:=x.tup.lt
def J7.new(h:Heap)(items:Array Value):J7 (h.push { cls:=.type "tuple",data:=.seq items }) h.objs.size items:=⟨_,qb3 _ rfl,rfl,rfl,_,rfl⟩
section
variable(P:Program)(w:World)
def ObjOk(H:Hp)(h:Heap)(a:Addr):HO->Prop
 | .lst xs=>xs.length<=sizeLine/\∃(its:List Value) (n:Nat),Vals xs its/\h.get? a=some { cls:=.type "list",data:=.seq its.toArray n }
 | .tup xs=>xs.length<=sizeLine/\∃its:List Value,Vals xs its/\J7 h a its.toArray
 | .dK kvs=>kvs.length<=sizeLine/\(a==sysModules)=false/\∃vs,KV kvs vs/\h.DictOf (mixKind P w) a vs
 | .dT kvs=>kvs.length<=sizeLine/\(a==sysModules)=false/\∃xs:List (List Key × Addr × Value),
    Paired (fun(p:List Key × V) (q:List Key × Addr × Value)=>p.1=q.1/\H q.2.1=some (.tup (p.1.map kV))/\RelV p.2 q.2.2) kvs xs ∧
    ∃o es ep,h.get? a=some o/\o.ExactDict/\o.data=.dict es ep/\es.toList=xs.map (entryOfKey (tupleKind (mixKind P w)))/\(xs.map (·.1)).Nodup
 | .set S n=>h.SetOf (intKind P w) a S n
 | .ins C dx fs=>H dx=some (.own a)/\fs.length<=1000/\dx≠a/\h.get? a=some (PySem.W.instObj C dx) ∧
    ∃mA,h.Ns1 dx mA/\(∀f,RelO (fs.lookup f) (mA f))/\PySem.Within mA (fs.map (·.1))
 | .own _=>∃o,h.get? a=some o
 | .xd fs=>∃mA,h.Ns1 a mA/\∀f,RelO (fs.lookup f) (mA f)
 | .rng lo hi=>∃t u v,h.get? a=some { cls:=.type "range",data:=.fields #[.int lo t,.int hi u,.int 1 v] }
 | .frz o u=>h.get? a=some o/\ObjOk H h a u
 | .tbl ps=>h.get? a=some { cls:=.none,data:=.fields ps }
 | .met f x=>h.get? a=some (PySem.W.methodObj (.ref f) (.ref x))
 | .ext φ=>φ h/\(∃o,h.get? a=some o)/\∀h1 h2:Heap,φ h1->(∀o,h1.get? a=some o->h2.get? a=some o)->φ h2
def Md(H:Hp)(h:Heap):Prop:=∀a o,H a=some o->ObjOk P w H h a o
end
section
variable{P:Program}{w:World}{H H':Hp}{h h':Heap}{a:Addr}{o:HO}
theorem ObjOk.lt(x:ObjOk P w H h a o):a<h.objs.size:=by
 cases o with
 | lst xs=>obtain⟨_,_,_,_,e⟩:=x;exact qa9 e
 | tup xs=>obtain⟨_,_,_,p⟩:=x;exact p.lt
 | dK kvs=>obtain⟨_,_,_,_,o,_,_,e,_⟩:=x;exact qa9 e
 | dT kvs=>obtain⟨_,_,_,_,o,_,_,e,_⟩:=x;exact qa9 e
 | set S n=>obtain⟨o,_,_,_,e,_⟩:=x;exact qa9 e
 | ins C dx fs=>obtain⟨_,_,_,e,_⟩:=x;exact qa9 e
 | own y=>obtain⟨_,e⟩:=x;exact qa9 e
 | xd fs=>obtain⟨_,⟨_,_,_,e,_⟩,_⟩:=x;exact qa9 e
 | rng lo hi=>obtain⟨_,_,_,e⟩:=x;exact qa9 e
 | frz ob u=>obtain⟨e,_⟩:=x;exact qa9 e
 | tbl ps=>exact qa9 (show h.get? a=some _ from x)
 | met f y=>exact qa9 (show h.get? a=some _ from x)
 | ext φ=>obtain⟨_,⟨_,e⟩,_⟩:=x;exact qa9 e
theorem Paired.mapP{α β:Type}{F G:α->β->Prop}:∀{l₁:List α}{l₂:List β},Paired F l₁ l₂->(∀a b,F a b->G a b)->Paired G l₁ l₂
 | _,_,.nil,_=>.nil
 | _,_,.cons r t,f=>.cons (f _ _ r) (Paired.mapP t f)
theorem ObjOk.stay(x:ObjOk P w H h a o)(k:∀b u,(b=a\/H b=some (.own a))->h.get? b=some u->h'.get? b=some u)
 (ho:∀b,H b=some (.own a)->H' b=some (.own a)) (ht:∀b xs,H b=some (.tup xs)->H' b=some (.tup xs)):ObjOk P w H' h' a o:=by
 induction o with
 | lst xs=>obtain⟨z,its,n,r,e⟩:=x;exact⟨z,its,n,r,k _ _ (.inl rfl) e⟩
 | tup xs=>obtain⟨z,its,r,ob,e,c⟩:=x;exact⟨z,its,r,ob,k _ _ (.inl rfl) e,c⟩
 | dK kvs=>obtain⟨z,y,vs,r,ob,es,ep,e,c⟩:=x;exact⟨z,y,vs,r,ob,es,ep,k _ _ (.inl rfl) e,c⟩
 | dT kvs =>
   obtain⟨z,y,xs,r,ob,es,ep,e,c⟩:=x;exact⟨z,y,xs,Paired.mapP r fun p q z=>⟨z.1,ht _ _ z.2.1,z.2.2⟩,ob,es,ep,k _ _ (.inl rfl) e,c⟩
 | set S n=>obtain⟨ob,es,ep,t,e,c⟩:=x;exact⟨ob,es,ep,t,k _ _ (.inl rfl) e,c⟩
 | ins C dx fs =>
   obtain⟨d,z,ne,e,mA,⟨od,es,ep,e2,c⟩,r⟩:=x;exact⟨ho _ d,z,ne,k _ _ (.inl rfl) e,mA,⟨od,es,ep,k _ _ (.inr d) e2,c⟩,r⟩
 | own y=>obtain⟨ob,e⟩:=x;exact⟨ob,k _ _ (.inl rfl) e⟩
 | xd fs=>obtain⟨mA,⟨od,es,ep,e,c⟩,r⟩:=x;exact⟨mA,⟨od,es,ep,k _ _ (.inl rfl) e,c⟩,r⟩
 | rng lo hi=>obtain⟨t,u,v,e⟩:=x;exact⟨t,u,v,k _ _ (.inl rfl) e⟩
 | frz ob u ih=>obtain⟨e,q⟩:=x;exact⟨k _ _ (.inl rfl) e,ih q⟩
 | tbl ps =>
   have e:h.get? a=some { cls:=.none,data:=.fields ps }:=x;show h'.get? a=some { cls:=.none,data:=.fields ps };exact k a _ (.inl rfl) e
 | met f y =>
   have e:h.get? a=some (PySem.W.methodObj (.ref f) (.ref y)):=x;show h'.get? a=some (PySem.W.methodObj (.ref f) (.ref y));exact k a _ (.inl rfl) e
 | ext φ=>obtain⟨p,⟨o,e⟩,st⟩:=x;exact⟨st _ _ p fun o q=>k _ _ (.inl rfl) q,⟨o,k _ _ (.inl rfl) e⟩,st⟩
theorem Md.lt(x:Md P w H h)(e:H a=some o):a<h.objs.size:=(x a o e).lt
theorem Md.fresh(x:Md P w H h)(e:h.objs.size<=a):H a=none:=by
 cases q:H a with
 | none=>rfl
 | some u=>exact absurd (qc5 (x.lt q) e) (qh7 _)
def Md.kept(x:Md P w H h)(k:∀b u,h.get? b=some u->h'.get? b=some u):Md P w H h':=fun a o e =>
 (x a o e).stay (fun b u _ q=>k b u q) (fun _ q=>q) fun _ _ q=>q
def Md.laid(x:Md P w H h)(k:∀b u,h.get? b=some u->h'.get? b=some u)(hp:h.objs.size<=a)(new:ObjOk P w (upd H a o) h' a o):Md P w (upd H a o) h':=fun b u e=>by
 have hn:=x.fresh hp;by_cases hb:b=a
 . subst hb;rw[Ab]at e;cases e;exact new
 . rw[Ai hb]at e;exact(x b u e).stay (fun c v _ q=>k c v q) (fun c q=>by rw[Ai (Ap q hn)];exact q) fun c xs q=>by rw[Ai (Ap q hn)];exact q
end
def Rd(H:Hp)(a:Addr)(u:HO):Prop:=H a=some u\/∃o,H a=some (.frz o u)
def Rd.ok{P:Program}{w:World}{H:Hp}{h:Heap}{a:Addr}{u:HO}(r:Rd H a u)(x:Md P w H h):ObjOk P w H h a u:=by
 rcases r with r|⟨o,r⟩
 . exact x a u r
 . obtain⟨_,q⟩:=x a _ r;exact q
def Mut:Option HO->Prop
 | some (.lst _)=>True
 | some (.dK _)=>True
 | some (.dT _)=>True
 | some (.set _ _)=>True
 | some (.ins _ _ _)=>True
 | some (.ext _)=>True
 | _=>False
section
variable{P:Program}{w:World}{H:Hp}{h h':Heap}{x e:Addr}{o':HO}
def Md.write(ok:Md P w H h)(mu:Mut (H x))(he:e=x\/H e=some (.own x))(k:∀b u,b≠e->h.get? b=some u->h'.get? b=some u)(wM:∃u,h'.get? e=some u)
 (new:ObjOk P w (upd H x o') h' x o'):Md P w (upd H x o') h':=fun b u q=>by
 have xQ:∀c y,H c=some (.own y)->c≠x:=fun c y r z=>by subst z;rw[r]at mu;exact mu
 have Ac0:∀c xs,H c=some (.tup xs)->c≠x:=fun c xs r z=>by subst z;rw[r]at mu;exact mu
 by_cases hb:b=x
 . subst hb;rw[Ab]at q;cases q;exact new
 . rw[Ai hb]at q;by_cases vM:b=e
   . have q':H b=some (.own x):=by
      rcases he with z | z
      . exact absurd (vM.trans z) hb
      . rw[vM];exact z
     rw[q]at q';cases q';obtain⟨v,hv⟩:=wM;exact⟨v,by rw[vM];exact hv⟩
   . refine(ok b u q).stay (fun c v hc r=>k c v ?_ r) (fun c r=>by rw[Ai (xQ c b r)];exact r) fun c xs r=>by rw[Ai (Ac0 c xs r)];exact r
     rcases hc with rfl | hc
     . exact vM
     . rintro rfl;rcases he with z | z
       . exact xQ c b hc z
       . rw[hc]at z;cases z;exact hb rfl
end
structure Un(fs ex:List Addr)(H H':Hp)(h h':Heap):Prop where
 keep:∀b o,h.get? b=some o->H b=none->b ∉ fs->b ∉ ex->h'.get? b=some o
 slot:∀b o,h.get? b=some o->H b=none->b∈fs->b ∉ ex->∃sl,h'.get? b=some { o with slots:=sl }
 free:∀b o,h.get? b=some o->H b=none->b ∉ ex->H' b=none
 there:∀b o,h.get? b=some o->b ∉ ex->∃o',h'.get? b=some o'
 tups:∀b xs,H b=some (.tup xs)->H' b=some (.tup xs)
 frzs:∀b o u,H b=some (.frz o u)->H' b=some (.frz o u)
 tbls:∀b ps,H b=some (.tbl ps)->∃more,H' b=some (.tbl (ps++more))
section
variable{fs fs' ex ex':List Addr}{H H1 H2:Hp}{h h1 h2 h':Heap}{a x e:Addr}{o:HO}
def Un.any(u:Un fs ex H H1 h h1){b:Addr}{ob:Obj}(q:h.get? b=some ob)(n:H b=none)(hx:b ∉ ex):∃sl,h1.get? b=some { ob with slots:=sl }:=by
 by_cases hb:b∈fs
 . exact u.slot b ob q n hb hx
 . exact⟨ob.slots,u.keep b ob q n hb hx⟩
def Un.kept(k:∀b u,h.get? b=some u->h'.get? b=some u):Un fs ex H H h h' :=
 ⟨fun b ob q _ _ _=>k b ob q,fun b ob q _ _ _=>⟨ob.slots,k b ob q⟩,fun _ _ _ n _=>n,fun b ob q _=>⟨ob,k b ob q⟩,fun _ _ q=>q,fun _ _ _ q=>q,fun _ ps q=>⟨#[],by rw[q];simp⟩⟩
def Un.refl:Un fs ex H H h h:=Un.kept fun _ _ q=>q
def Un.laid(k:∀b u,h.get? b=some u->h'.get? b=some u)(hp:h.objs.size<=a)(hn:H a=none):Un fs ex H (upd H a o) h h' where
 keep:=fun b u q _ _ _=>k b u q
 slot:=fun b u q _ _ _=>⟨u.slots,k b u q⟩
 free:=fun b u q n _=>by rw[Ai (qb8 (qc5 (qa9 q) hp))];exact n
 there:=fun b u q _=>⟨u,k b u q⟩
 tups:=fun b xs q=>by rw[Ai (Ap q hn)];exact q
 frzs:=fun b u xs q=>by rw[Ai (Ap q hn)];exact q
 tbls:=fun b ps q=>⟨#[],by rw[Ai (Ap q hn),q];simp⟩
def Un.write(mu:Mut (H x))(he:e=x\/H e=some (.own x))(k:∀b u,b≠e->h.get? b=some u->h'.get? b=some u)(wM:∃u,h'.get? e=some u):Un fs ex H (upd H x o) h h':=by
 have hx:∀b,H b=none->b≠x:=fun b n z=>by subst z;rw[n]at mu;exact mu
 have hb:∀b,H b=none->b≠e:=fun b n z=>by
  subst z;rcases he with r | r
  . exact hx b n r
  . rw[n]at r;cases r
 have hm:∀b u,H b=some u->¬Mut (some u)->b≠x:=fun b u q nm z=>by subst z;rw[q]at mu;exact nm mu
 refine⟨fun b u q n _ _=>k b u (hb b n) q,fun b u q n _ _=>⟨u.slots,k b u (hb b n) q⟩,fun b u q n _=>by rw[Ai (hx b n)];exact n,fun b u q _=>?_,
  fun b xs q=>by rw[Ai (hm b _ q fun z=>z)];exact q,fun b u xs q=>by rw[Ai (hm b _ q fun z=>z)];exact q,fun b ps q=>⟨#[],by rw[Ai (hm b _ q fun z=>z),q];simp⟩⟩
 by_cases vM:b=e
 . subst vM;exact wM
 . exact⟨u,k b u vM q⟩
end
noncomputable def trk(h:Heap)(H:Hp):List Addr:=(List.range h.objs.size).filter fun a=>(H a).isSome
def m9(h:Heap)(H:Hp):Heap:=PySem.W.hideAll h (trk h H)
def JV(h:Heap)(H:Hp):(m9 h H).objs.size=h.objs.size:=PySem.W.hideAll_size _ _
def nU{h:Heap}{H:Hp}{b:Addr}{o:Obj}(e:h.get? b=some o)(n:H b=none):(m9 h H).get? b=some o :=
 qi0 _ e fun hm=>by
  have q:(H b).isSome=true:=(qg1.mp hm).2;rw[n]at q;simp at q
theorem qO{h:Heap}{H:Hp}{b:Addr}{o:Obj}(e:(m9 h H).get? b=some o):h.get? b=some o/\H b=none:=by
 have e':h.get? b=some o:=qr6 (trk h H) e;refine⟨e',?_⟩;cases q:H b with
 | none=>rfl
 | some x =>
   have hm:b∈trk h H:=qg1.mpr ⟨qe6.mpr (qa9 e'),by simp[q]⟩;have z:(m9 h H).get? b=none:=PySem.W.hideAll_none (trk h H) hm;rw[z]at e;cases e
structure Mod(K:W.Frag)(mg:Str->Option Value)(base:Heap):Prop where
 kin:K.In base
 glob:base.Ns mainGlobals mg
 blt:∃mb,base.Ns builtinsNs mb/\∀x:Str,x≠"__name__"->mb x=bootBuiltins x
 nolimit:base.NoLimit
structure Cx where
 prog:Program
 w:World
 K:PySem.W.Frag
 mg:Str->Option Value
 base:Heap
 A:Around
 N:List Str
 s₀:Shared
 H₀:Hp
 env:Env
 outer:List Env
 stack:List Env
 ex:List Addr
 fn:Str->Bool
 calm:Bool
 pn:LAObj
 xe:Value->Shared->Prop
noncomputable def frs(l:List Env):List Addr:=l.filterMap (·.frame)
abbrev Cx.fs(X:Cx):List Addr:=frs X.outer
def ZT(sc:Scope)(x:Str):Prop:=sc.names.lookup x=some .local\/sc.names.lookup x=some .cell\/sc.names.lookup x=some .free
def WH(sc:Scope)(x:Str):Prop:=sc.names.lookup x=some .local\/sc.names.lookup x=some .cell
def Al6(env:Env)(h:Heap)(m:Str->Option Value)(x:Str)(u:Value):Prop :=
 (env.kindOf x=some .local/\m x=some u)\/((env.kindOf x=some .cell\/env.kindOf x=some .free)/\∃c,env.cells.lookup x=some c/\h.IsCell c (some u))
structure Cx.Ok(X:Cx):Prop where
 mod:Mod X.K X.mg X.base
 kind:X.env.scope.kind=.function
 glob:X.env.globals=mainGlobals
 blt:X.env.builtins=builtinsNs
 above:X.s₀.heap.objs.size<=X.env.locals
 inj:∀x y c,X.env.cells.lookup x=some c->X.env.cells.lookup y=some c->x=y
 has:∀x,(X.env.kindOf x=some .cell\/X.env.kindOf x=some .free)->∃c,X.env.cells.lookup x=some c
 cab:∀x c,X.fn x=true->X.env.cells.lookup x=some c->X.s₀.heap.objs.size<=c
 hd:X.calm=true->X.A.handled=none
 frames:X.A.frames=some X.stack
 stk:X.stack=X.outer\/(X.stack=X.env::X.outer/\X.env.frame=some X.env.locals)
 exf:∀b∈X.ex,b≠X.env.locals/\∀x c,X.env.cells.lookup x=some c->c≠b
 bs:∀b o,X.base.get? b=some o->X.s₀.heap.get? b=some o/\X.H₀ b=none
 bsz:X.base.objs.size<=X.s₀.heap.objs.size
 noex:∀b o,X.base.get? b=some o->b ∉ X.ex
 exfs:∀b∈X.ex,b ∉ X.fs
 funs:X.s₀.heap.FunFrames X.base X.outer
 frf:∀b∈X.fs,X.H₀ b=none
structure Inv(X:Cx)(Ac:LAObj)(σ:List (Option V))(H:Hp)(s:Shared):Prop where
 ok:X.Ok
 os:s.os=X.s₀.os
 bare:AllBare s.gens
 base:Un X.fs X.ex X.H₀ H X.s₀.heap s.heap
 loc:∃m,s.heap.Ns X.env.locals m/\∀(i:Nat) (x:Str) (v:V),X.N[i]?=some x->σ[i]?=some (some v)->ZT X.env.scope x->∃u,RelV v u/\Al6 X.env s.heap m x u
 cell:∀x c,X.env.cells.lookup x=some c->∃v,s.heap.IsCell c v
 free:H X.env.locals=none
 freeC:∀x c,X.env.cells.lookup x=some c->H c=none
 pin:∀p∈X.pn++Ac,s.heap.get? p.1=some p.2/\H p.1=none/\p.1≠X.env.locals/\p.1 ∉ X.fs/\∀v,p.2.data≠.cell v
 hok:Md X.prog X.w H s.heap
 len:σ.length=X.N.length
section
variable{X:Cx}{Ac:LAObj}{σ:List (Option V)}{H H':Hp}{s:Shared}{h':Heap}
def Cx.Ok.nofr(ok:X.Ok){b:Addr}{o:Obj}(e:X.base.get? b=some o):b ∉ X.fs:=fun hb=>by
 have:=(ok.funs.mem hb).1;rw[e]at this;cases this
theorem Inv.bs(I:Inv X Ac σ H s):∀b o,X.base.get? b=some o->s.heap.get? b=some o/\H b=none:=fun b o e =>
 ⟨I.base.keep b o (I.ok.bs b o e).1 (I.ok.bs b o e).2 (I.ok.nofr e) (I.ok.noex b o e),I.base.free b o (I.ok.bs b o e).1 (I.ok.bs b o e).2 (I.ok.noex b o e)⟩
def Inv.bk(I:Inv X Ac σ H s):∀b o,X.base.get? b=some o->s.heap.get? b=some o:=fun b o e=>(I.bs b o e).1
theorem Inv.mod(I:Inv X Ac σ H s):Mod X.K X.mg X.base:=I.ok.mod
def Inv.kIn(I:Inv X Ac σ H s):X.K.In s.heap:=I.ok.mod.kin.keeps I.bk
theorem Inv.lt(I:Inv X Ac σ H s):X.env.locals<s.heap.objs.size:=let ⟨_,hn,_⟩:=I.loc;hn.lt
def Inv.sz(I:Inv X Ac σ H s):X.s₀.heap.objs.size<=s.heap.objs.size:=qe5 I.ok.above (qt3 I.lt)
def Inv.nofs(I:Inv X Ac σ H s){a:Addr}(h:s.heap.objs.size<=a):a ∉ X.fs:=fun hb=>by
 obtain⟨_,o,ho,_⟩:=I.ok.funs.mem hb;exact absurd (qc5 (qa9 ho) (qe5 I.sz h)) (qh7 _)
def Inv.cne(I:Inv X Ac σ H s):∀x c,X.env.cells.lookup x=some c->c≠X.env.locals:=fun x c e z=>by
 obtain⟨v,o,ho,hd⟩:=I.cell x c e;obtain⟨m,⟨o',es,ep,ho',hd',_⟩,_⟩:=I.loc;rw[z,ho']at ho;cases ho;rw[hd']at hd;cases hd
theorem Inv.funs(I:Inv X Ac σ H s):s.heap.FunFrames X.base X.outer:=by
 have all:∀(l:List Env),(∀b∈frs l,b∈X.fs)->X.s₀.heap.FunFrames X.base l->s.heap.FunFrames X.base l:=by
  intro l
  induction l with
  | nil=>intro _ _;trivial
  | cons env r ih =>
    intro hs hl;obtain⟨hk,⟨L,o,hf,hn,ho,hd⟩,hr⟩:=hl;have hL:L∈X.fs:=hs L (by unfold frs;rw[qr4,hf];exact qb2);obtain⟨sl,e⟩:=I.base.slot L o ho (I.ok.frf L hL) hL fun z=>I.ok.exfs L z hL;exact⟨hk,⟨L,_,hf,hn,e,hd⟩,ih (fun b hb=>hs b (by unfold frs;rw[qr4,hf];exact qb0 _ hb)) hr⟩
 exact all X.outer (fun _ hb=>hb) I.ok.funs
theorem Inv.stack(I:Inv X Ac σ H s):s.heap.FunFrames X.base X.stack:=by
 rcases I.ok.stk with e|⟨e,hf⟩
 . rw[e];exact I.funs
 . rw[e];obtain⟨m,hn,_⟩:=I.loc;refine .cons (by rw[I.ok.kind];decide) hf hn ?_ I.funs;exact qs9 (qe5 I.ok.bsz I.ok.above)
def Inv.stkSub(I:Inv X Ac σ H s):∀b∈frs X.stack,b∈X.env.locals::X.fs:=fun b hb=>by
 rcases I.ok.stk with e|⟨e,hf⟩
 . rw[e]at hb;exact qb0 _ hb
 . rw[e]at hb;unfold frs at hb;rw[qr4,hf]at hb;exact hb
def Inv.stkFree(I:Inv X Ac σ H s):∀b∈frs X.stack,H b=none:=fun b hb=>by
 rcases qc0.mp (I.stkSub b hb) with e | hb
 . rw[e];exact I.free
 . obtain⟨_,o,ho,_⟩:=I.ok.funs.mem hb;exact I.base.free b o ho (I.ok.frf b hb) fun z=>I.ok.exfs b z hb
def Inv.step{g':Array GenState}{t':Nat}{d':Drawn}{ch:List Addr}(I:Inv X Ac σ H s)
 (hch:∀b∈ch,(b∈X.ex\/X.s₀.heap.objs.size<=b)/\b≠X.env.locals/\(∀x c,X.env.cells.lookup x=some c->c≠b)/\∀p∈X.pn++Ac,p.1≠b)
 (keep:∀b o,b≠X.env.locals->b ∉ X.fs->b ∉ ch->s.heap.get? b=some o->H b=none->h'.get? b=some o)
 (slot:∀b o,b≠X.env.locals->b∈X.fs->b ∉ ch->s.heap.get? b=some o->H b=none->∃sl,h'.get? b=some { o with slots:=sl }) (free:∀b o,b ∉ ch->s.heap.get? b=some o->H b=none->H' b=none)
 (there:∀b o,b ∉ ch->s.heap.get? b=some o->∃o',h'.get? b=some o')
 (tups:∀b xs,H b=some (.tup xs)->H' b=some (.tup xs)) (frzs:∀b o u,H b=some (.frz o u)->H' b=some (.frz o u)) (tbls:∀b ps,H b=some (.tbl ps)->∃more,H' b=some (.tbl (ps++more)))
 (ns:∀m,s.heap.Ns X.env.locals m->h'.Ns X.env.locals m) (hok:Md X.prog X.w H' h') (hg:AllBare g') :
 Inv X Ac σ H' { s with heap:=h',gens:=g',drawn:=d',toks:=t' }:=by
 have neL:∀b o,X.s₀.heap.get? b=some o->b≠X.env.locals:=fun b o e=>qb8 (qc5 (qa9 e) I.ok.above)
 have zE:∀b o,X.s₀.heap.get? b=some o->b ∉ X.ex->b ∉ ch:=fun b o e hx hb=>by
  rcases (hch b hb).1 with z | z
  . exact hx z
  . exact absurd (qc5 (qa9 e) z) (qh7 _)
 have cellK:∀x c,X.env.cells.lookup x=some c->∀v,s.heap.IsCell c v->h'.IsCell c v:=fun x c e v ⟨o,ho,hd⟩=>by
  have j6:c ∉ ch:=fun z=>(hch c z).2.2.1 x c e rfl;by_cases hc:c∈X.fs
  . obtain⟨sl,q⟩:=slot c o (I.cne x c e) hc j6 ho (I.freeC x c e);exact⟨_,q,hd⟩
  . exact⟨o,keep c o (I.cne x c e) hc j6 ho (I.freeC x c e),hd⟩
 refine⟨I.ok,I.os,hg,⟨fun b o e n hb hx=>?_,fun b o e n hb hx=>?_,fun b o e n hx=>?_,fun b o e hx=>?_,fun b xs e=>tups b xs (I.base.tups b xs e),fun b o xs e=>frzs b o xs (I.base.frzs b o xs e),fun b ps e=>?_⟩,?_,fun x c e=>?_,?_,fun x c e=>?_,fun p hp=>?_,hok,I.len⟩
 . exact keep b o (neL b o e) hb (zE b o e hx) (I.base.keep b o e n hb hx) (I.base.free b o e n hx)
 . obtain⟨sl,e1⟩:=I.base.slot b o e n hb hx;obtain⟨sl',e2⟩:=slot b _ (neL b o e) hb (zE b o e hx) e1 (I.base.free b o e n hx);exact⟨sl',e2⟩
 . obtain⟨o',e1⟩:=I.base.there b o e hx;exact free b o' (zE b o e hx) e1 (I.base.free b o e n hx)
 . obtain⟨o',e1⟩:=I.base.there b o e hx;exact there b o' (zE b o e hx) e1
 . obtain⟨m1,e1⟩:=I.base.tbls b ps e;obtain⟨m2,e2⟩:=tbls b _ e1;exact⟨m1++m2,by rw[e2,Array.append_assoc]⟩
 . obtain⟨m,hn,hl⟩:=I.loc;refine⟨m,ns m hn,fun i x v e1 e2 e3=>?_⟩;obtain⟨u,r,l⟩:=hl i x v e1 e2 e3;refine⟨u,r,?_⟩;rcases l with l|⟨k,c,e,z⟩
   . exact .inl l
   . exact .inr ⟨k,c,e,cellK x c e _ z⟩
 . obtain⟨v,z⟩:=I.cell x c e;exact⟨v,cellK x c e v z⟩
 . obtain⟨m,⟨o,_,_,ho,_⟩,_⟩:=I.loc;exact free _ o (fun z=>(hch _ z).2.1 rfl) ho I.free
 . obtain⟨v,o,ho,hd⟩:=I.cell x c e;exact free c o (fun z=>(hch c z).2.2.1 x c e rfl) ho (I.freeC x c e)
 . obtain⟨e,n,ne,nf,d⟩:=I.pin p hp;have j6:p.1 ∉ ch:=fun z=>(hch p.1 z).2.2.2 p hp rfl;exact⟨keep p.1 p.2 ne nf j6 e n,free p.1 p.2 j6 e n,ne,nf,d⟩
def Inv.un{t':Nat}(I:Inv X Ac σ H s)(u:Un X.fs [] H H' s.heap h')(hok:Md X.prog X.w H' h'):Inv X Ac σ H' { s with heap:=h',toks:=t' }:=by
 obtain⟨m,⟨o,es,ep,ho,r⟩,_⟩:=id I.loc;obtain⟨sl,hL⟩:=u.any ho I.free (by simp)
 exact I.step (g':=s.gens) (d':=s.drawn) (ch:=[]) (fun _ z=>nomatch z) (fun b o _ hb _ e n=>u.keep b o e n hb (by simp)) (fun b o _ hb _ e n=>u.slot b o e n hb (by simp)) (fun b o _ e n=>u.free b o e n (by simp)) (fun b o _ e=>u.there b o e (by simp)) u.tups u.frzs u.tbls (fun m' hm=>by
  obtain⟨o',es',oF,ho',r'⟩:=hm;rw[ho]at ho';cases ho';exact⟨_,es',oF,hL,r'⟩) hok I.bare
def Inv.call{g':Array GenState}{t':Nat}{d':Drawn}{ch:List Addr}(I:Inv X Ac σ H s)(u:Un (frs X.stack) ch H H' s.heap h')(hok:Md X.prog X.w H' h')(hg:AllBare g')
 (hch:∀b∈ch,(b∈X.ex\/X.s₀.heap.objs.size<=b)/\b≠X.env.locals/\(∀x c,X.env.cells.lookup x=some c->c≠b)/\∀p∈X.pn++Ac,p.1≠b) :
 Inv X Ac σ H' { s with heap:=h',gens:=g',drawn:=d',toks:=t' }:=by
 obtain⟨m,⟨o,es,ep,ho,r⟩,_⟩:=id I.loc;obtain⟨sl,hL⟩:=u.any ho I.free fun z=>(hch _ z).2.1 rfl
 exact I.step (ch:=ch) hch (fun b o hL hb hc e n=>u.keep b o e n (fun z=>(qc0.mp (I.stkSub b z)).elim hL hb) hc) (fun b o _ _ hc e n=>u.any e n hc) (fun b o hc e n=>u.free b o e n hc) (fun b o hc e=>u.there b o e hc) u.tups u.frzs u.tbls (fun m' hm=>by
  obtain⟨o',es',oF,ho',r'⟩:=hm;rw[ho]at ho';cases ho';exact⟨_,es',oF,hL,r'⟩) hok hg
def Inv.turned{t':Nat}{it:Addr}(I:Inv X Ac σ H s)(k:∀b o,b≠it->s.heap.get? b=some o->h'.get? b=some o)(hn:H it=none)(hL:it≠X.env.locals)
 (h1:it∈X.ex\/X.s₀.heap.objs.size<=it) (h2:∀x c,X.env.cells.lookup x=some c->c≠it) (h3:∀p∈X.pn++Ac,p.1≠it):Inv X Ac σ H { s with heap:=h',toks:=t' }:=by
 have nit:∀b u,H b=some u->b≠it:=fun b u e z=>by rw[z,hn]at e;cases e
 refine I.step (g':=s.gens) (d':=s.drawn) (ch:=[it]) (fun b hb=>?_) (fun b o _ _ hc e _=>k b o (fun z=>hc (by simp[z])) e) (fun b o _ _ hc e _=>⟨o.slots,k b o (fun z=>hc (by simp[z])) e⟩) (fun _ _ _ _ n=>n)
  (fun b o hc e=>⟨o,k b o (fun z=>hc (by simp[z])) e⟩) (fun _ _ e=>e) (fun _ _ _ e=>e) (fun b ps e=>⟨#[],by rw[e];simp⟩) (fun m hm=>?_) (fun b u e=>?_) I.bare
 . have e:b=it:=by simpa using hb
   subst e;exact⟨h1,hL,h2,h3⟩
 . obtain⟨o,es,ep,ho,r⟩:=hm;exact⟨o,es,ep,k _ o (Ne.symm hL) ho,r⟩
 . refine(I.hok b u e).stay (fun c v hc q=>k c v ?_ q) (fun _ q=>q) fun _ _ q=>q;rcases hc with z | z
   . rw[z];exact nit b u e
   . exact nit c _ z
def Inv.tok(I:Inv X Ac σ H s)(t:Nat):Inv X Ac σ H { s with toks:=t }:=I.un (h':=s.heap) (t':=t) Un.refl I.hok
theorem Inv.kept{t':Nat}(I:Inv X Ac σ H s)(k:∀b u,s.heap.get? b=some u->h'.get? b=some u):Inv X Ac σ H { s with heap:=h',toks:=t' }:=I.un (Un.kept k) (I.hok.kept k)
theorem Inv.laid{a:Addr}{o:HO}{t':Nat}(I:Inv X Ac σ H s)(k:∀b u,s.heap.get? b=some u->h'.get? b=some u)(hp:s.heap.objs.size<=a)(new:ObjOk X.prog X.w (upd H a o) h' a o) :
 Inv X Ac σ (upd H a o) { s with heap:=h',toks:=t' }:=I.un (Un.laid k hp (I.hok.fresh hp)) (I.hok.laid k hp new)
theorem Inv.write{x e:Addr}{o:HO}{t':Nat}(I:Inv X Ac σ H s)(mu:Mut (H x))(he:e=x\/H e=some (.own x))(k:∀b u,b≠e->s.heap.get? b=some u->h'.get? b=some u)(wM:∃u,h'.get? e=some u)
 (new:ObjOk X.prog X.w (upd H x o) h' x o):Inv X Ac σ (upd H x o) { s with heap:=h',toks:=t' }:=I.un (Un.write mu he k wM) (I.hok.write mu he k wM new)
def Inv.pins_of{SD:LAObj}(I:Inv X Ac σ H s)(h:∀p∈SD,s.heap.get? p.1=some p.2/\H p.1=none/\p.1≠X.env.locals/\p.1 ∉ X.fs/\∀v,p.2.data≠.cell v):Inv X SD σ H s :=
 ⟨I.ok,I.os,I.bare,I.base,I.loc,I.cell,I.free,I.freeC,fun p hp=>(qd6.mp hp).elim (fun z=>I.pin p (qk4 _ z)) (h p),I.hok,I.len⟩
def Uv{N:List Str}(hN:N.Nodup){i j:Nat}{x:Str}(a:N[i]?=some x)(b:N[j]?=some x):i=j:=by
 obtain⟨h1,e1⟩:=qa2.mp a;obtain⟨h2,e2⟩:=qa2.mp b;exact(List.getElem_inj hN).mp (e1.trans e2.symm)
def Xz{M:Model}{A:Around}{E:Value->Shared->Prop}{i:Nat}{x:Str}{v:V}{u:Value}{Q:Unit->Shared->Prop}(I:Inv X Ac σ H s)(hN:X.N.Nodup)(hi:X.N[i]?=some x)(hx:WH X.env.scope x)(r:RelV v u)
 (h:∀s',Inv X Ac (σ.set i (some v)) H s'->(∃a,Heap.SameBut a s.heap s'.heap/\(a=X.env.locals\/X.env.cells.lookup x=some a))->Q () s') (hf:X.fn x=true\/X.env.scope.names.lookup x=some .local:=by first | exact .inl rfl | exact .inr rfl | assumption):wpAny M A (storeName X.env x u) Q E s:=by
 obtain⟨m,hn,hl⟩:=id I.loc;have hcls:(X.env.scope.kind==.class || (X.env.scope.kind==.module&&X.env.locals != X.env.globals))=false:=by rw[I.ok.kind];rfl
 have hiσ:i<σ.length:=by rw[I.len];exact(qa2.mp hi).1
 have cne:=I.cne
 have tracked:∀{a:Addr}{h':Heap},(∃o,s.heap.get? a=some o/\H a=none)->Heap.SameBut a s.heap h'->Md X.prog X.w H h':=fun {a h'} ha hs b ob e=>by
  obtain⟨_,_,hfree⟩:=ha;refine(I.hok b ob e).stay (fun c w' hc q=>(hs.2 c ?_).trans q) (fun _ q=>q) fun _ _ q=>q;rintro rfl;rcases hc with rfl | hc
  . rw[hfree]at e;cases e
  . rw[hfree]at hc;cases hc
 rcases hx with hk | hk
 . refine wpAny_storeName_local hk hn (fun h' hn' hs=>?_) hcls;obtain⟨oL,_,_,hoL,_⟩:=id hn;refine h _ ⟨I.ok,I.os,I.bare,⟨fun b o e n hb hx=>?_,fun b o e n hb hx=>?_,I.base.free,fun b o e hx=>?_,I.base.tups,I.base.frzs,I.base.tbls⟩,⟨_,hn',fun j y v' e1 e2 e3=>?_⟩,fun y c e=>?_,I.free,I.freeC,fun p hp=>?_,tracked ⟨oL,hoL,I.free⟩ hs,by simpa using I.len⟩ ⟨_,hs,.inl rfl⟩
   . exact(hs.2 b (qb8 (qc5 (qa9 e) I.ok.above))).trans (I.base.keep b o e n hb hx)
   . obtain⟨sl,e1⟩:=I.base.slot b o e n hb hx;exact⟨sl,(hs.2 b (qb8 (qc5 (qa9 e) I.ok.above))).trans e1⟩
   . obtain⟨o',e1⟩:=I.base.there b o e hx;exact⟨o',(hs.2 b (qb8 (qc5 (qa9 e) I.ok.above))).trans e1⟩
   . by_cases hj:j=i
     . subst hj;rw[hi]at e1;cases e1;rw[List.getElem?_set_self hiσ]at e2;cases e2;exact⟨u,r,.inl ⟨hk,by simp⟩⟩
     . rw[qr0 (Ne.symm hj)]at e2;obtain⟨u',r',q⟩:=hl j y v' e1 e2 e3;refine⟨u',r',?_⟩;rcases q with⟨k,e⟩|⟨k,c,e,z⟩
       . refine .inl ⟨k,?_⟩;have:y≠x:=fun e=>hj (Uv hN e1 (e▸hi));simp[this,e]
       . exact .inr ⟨k,c,e,z.sameBut hs (cne y c e)⟩
   . obtain⟨w',z⟩:=I.cell y c e;exact⟨w',z.sameBut hs (cne y c e)⟩
   . obtain⟨e,n,ne,nf,d⟩:=I.pin p hp;exact⟨(hs.2 p.1 ne).trans e,n,ne,nf,d⟩
 . have hfn:X.fn x=true:=by
    rcases hf with z | z
    . exact z
    . rw[z]at hk;cases hk
   obtain⟨c,hc⟩:=I.ok.has x (.inl hk);obtain⟨w',z⟩:=I.cell x c hc;refine wpAny_storeName_cell I.ok.kind hk hc z (fun h' hc' hs=>?_);obtain⟨oc,hoc,Af2⟩:=id z;refine h { s with heap:=h' } ⟨I.ok,I.os,I.bare,⟨fun b o e n hb hx=>?_,fun b o e n hb hx=>?_,I.base.free,fun b o e hx=>?_,I.base.tups,I.base.frzs,I.base.tbls⟩,⟨m,hn.sameBut hs (Ne.symm (cne x c hc)),fun j y v' e1 e2 e3=>?_⟩,fun y c' e=>?_,I.free,I.freeC,fun p hp=>?_,tracked ⟨oc,hoc,I.freeC x c hc⟩ hs,by simpa using I.len⟩ ⟨c,hs,.inr hc⟩
   . exact(hs.2 b (qb8 (qc5 (qa9 e) (I.ok.cab x c hfn hc)))).trans (I.base.keep b o e n hb hx)
   . obtain⟨sl,e1⟩:=I.base.slot b o e n hb hx;exact⟨sl,(hs.2 b (qb8 (qc5 (qa9 e) (I.ok.cab x c hfn hc)))).trans e1⟩
   . obtain⟨o',e1⟩:=I.base.there b o e hx;exact⟨o',(hs.2 b (qb8 (qc5 (qa9 e) (I.ok.cab x c hfn hc)))).trans e1⟩
   . by_cases hj:j=i
     . subst hj;rw[hi]at e1;cases e1;rw[List.getElem?_set_self hiσ]at e2;cases e2;exact⟨u,r,.inr ⟨.inl hk,c,hc,hc'⟩⟩
     . rw[qr0 (Ne.symm hj)]at e2;obtain⟨u',r',q⟩:=hl j y v' e1 e2 e3;refine⟨u',r',?_⟩;rcases q with q|⟨k,c',e,z'⟩
       . exact .inl q
       . refine .inr ⟨k,c',e,z'.sameBut hs ?_⟩;rintro rfl;exact hj (Uv hN e1 (I.ok.inj _ _ _ e hc▸hi))
   . by_cases hcc:c'=c
     . subst hcc;exact⟨_,hc'⟩
     . obtain⟨w2,z2⟩:=I.cell y c' e;exact⟨w2,z2.sameBut hs hcc⟩
   . obtain⟨e,n,ne,nf,d⟩:=I.pin p hp;refine⟨(hs.2 p.1 ?_).trans e,n,ne,nf,d⟩;intro q;rw[q,hoc]at e;have q':oc=p.2:=qd4 e;exact d w' (by rw[←q'];exact Af2)
def Ub{M:Model}{A:Around}{E:Value->Shared->Prop}{i:Nat}{x:Str}{v:V}{u:Value}{Q:Unit->Shared->Prop}(I:Inv X Ac σ H s)(hN:X.N.Nodup)(hi:X.N[i]?=some x)(hx:WH X.env.scope x)(r:RelV v u)
 (h:∀s',Inv X Ac (σ.set i (some v)) H s'->Q () s') (hf:X.fn x=true\/X.env.scope.names.lookup x=some .local:=by first | exact .inl rfl | exact .inr rfl | assumption):wpAny M A (storeName X.env x u) Q E s :=
 Xz I hN hi hx r (fun s' I' _=>h s' I') hf
def Inv.call'{s':Shared}{ch:List Addr}(I:Inv X Ac σ H s)(ho:s'.os=s.os)(u:Un (frs X.stack) ch H H' s.heap s'.heap)(hok:Md X.prog X.w H' s'.heap)(hg:AllBare s'.gens)
 (hch:∀b∈ch,(b∈X.ex\/X.s₀.heap.objs.size<=b)/\b≠X.env.locals/\(∀x c,X.env.cells.lookup x=some c->c≠b)/\∀p∈X.pn++Ac,p.1≠b):Inv X Ac σ H' s':=by
 obtain⟨h',g',d',t',o'⟩:=s';have e:o'=s.os:=ho;subst e;exact I.call (g':=g') (t':=t') (d':=d') u hok hg hch
end
abbrev XK:=Value->OAddr->Hp->Prop
abbrev St:=List (Option V)
abbrev VK:=V->Hp->Prop
abbrev TE:=St->Hp->VK->Prop
abbrev TT:=St->Hp->(Bool->Hp->Prop)->Prop
abbrev TA:=St->Hp->(List V->Hp->Prop)->Prop
structure Ends where
 nx:St->Hp->Prop
 rt:VK
 bk:St->Hp->Prop:=fun _ _=>False
 ct:St->Hp->Prop:=fun _ _=>False
abbrev TS:=Ends->St->Hp->Prop
def EP(X:Cx)(Ac:LAObj)(σ:St)(Q:VK)(u:Value)(s':Shared):Prop:=∃v H',Inv X Ac σ H' s'/\RelV v u/\Q v H'
def TP(X:Cx)(Ac:LAObj)(σ:St)(Q:Bool->Hp->Prop)(b:Bool)(s':Shared):Prop:=∃H',Inv X Ac σ H' s'/\Q b H'
def AP(X:Cx)(Ac:LAObj)(σ:St)(Q:List V->Hp->Prop)(us:List Value)(s':Shared):Prop:=∃vs H',Inv X Ac σ H' s'/\Vals vs us/\Q vs H'
def SP(X:Cx)(Ac:LAObj)(D:Ends)(f:Flow)(s':Shared):Prop :=
 match f with
 | .next=>∃σ' H',Inv X Ac σ' H' s'/\D.nx σ' H'
 | .brk=>∃σ' H',Inv X Ac σ' H' s'/\D.bk σ' H'
 | .cont=>∃σ' H',Inv X Ac σ' H' s'/\D.ct σ' H'
 | .ret u=>∃v σ' H',Inv X Ac σ' H' s'/\RelV v u/\D.rt v H'
def PE(X:Cx)(e:Expr)(t:TE):Prop :=
 ∀(Ac:LAObj) (s:Shared) (σ:St) (H:Hp) (Q:VK),Inv X Ac σ H s->t σ H Q->wpAny (model X.prog X.w) X.A (eval e X.env) (EP X Ac σ Q) X.xe s
def PT(X:Cx)(e:Expr)(t:TT):Prop :=
 ∀(Ac:LAObj) (s:Shared) (σ:St) (H:Hp) (Q:Bool->Hp->Prop),Inv X Ac σ H s->t σ H Q->wpAny (model X.prog X.w) X.A (isTrue e X.env (eval e X.env)) (TP X Ac σ Q) X.xe s
def PW(X:Cx)(e:Expr)(t:TT):Prop :=
 ∀(whole:Sem Value) (Ac:LAObj) (s:Shared) (σ:St) (H:Hp) (Q:Bool->Hp->Prop),Inv X Ac σ H s->t σ H Q->wpAny (model X.prog X.w) X.A (isTrue e X.env whole) (TP X Ac σ Q) X.xe s
def PW.pt{X:Cx}{e:Expr}{t:TT}(h:PW X e t):PT X e t:=h _
def PA(X:Cx)(es:List Expr)(t:TA):Prop :=
 ∀(pos:Pos) (Ac:LAObj) (s:Shared) (σ:St) (H:Hp) (Q:List V->Hp->Prop),Inv X Ac σ H s->t σ H Q->wpAny (model X.prog X.w) X.A (spliced (backTo pos (starEach es X.env))) (AP X Ac σ Q) X.xe s
def PS(X:Cx)(st:Stmt)(t:TS):Prop :=
 ∀(Ac:LAObj) (s:Shared) (σ:St) (H:Hp) (D:Ends),Inv X Ac σ H s->t D σ H->wpAny (model X.prog X.w) X.A (exec st X.env) (SP X Ac D) X.xe s
def dG(X:Cx)(st:List Stmt)(t:TS):Prop :=
 ∀(Ac:LAObj) (s:Shared) (σ:St) (H:Hp) (D:Ends),Inv X Ac σ H s->t D σ H->wpAny (model X.prog X.w) X.A (execs st X.env) (SP X Ac D) X.xe s
def Cz{α:Type}{t:Sem α}{Q Q':α->Shared->Prop}{M:Model}{A:Around}{E:Value->Shared->Prop}{s:Shared}(h:wpAny M A t Q E s)(hQ:∀a s,Q a s->Q' a s):wpAny M A t Q' E s:=qe2 h hQ fun _ _ x=>x
section
variable{X:Cx}
def WV(i:Nat):TE:=fun σ H Q=>∃v,σ[i]?=some (some v)/\Q v H
def tC(v:V):TE:=fun _ H Q=>Q v H
def UH{i:Nat}{x:Str}{pos:Pos}(hN:X.N[i]?=some x)(hv:ZT X.env.scope x)(hd:(x==("__debug__":Str))=false:=by decide)(hcd:(x==("__classdict__":Str))=false:=by decide):PE X (.Name x pos) (WV i):=by
 intro Ac s σ H Q I h;obtain⟨v,e,h⟩:=h;obtain⟨m,hn,hl⟩:=I.loc;obtain⟨u,r,l⟩:=hl i x v hN e hv;have fin:EP X Ac σ Q u s:=⟨v,H,I,r,h⟩
 rcases l with⟨hk,hm⟩|⟨hk,c,hc,hcell⟩
 . exact wpAny_Name (wpAny_loadName_local I.ok.kind hk hn hm fin) hd
 . rcases hk with hk | hk
   . exact wpAny_Name (wpAny_loadName_cell I.ok.kind hk hc hcell fin) hd
   . exact wpAny_Name (wpAny_loadName_free I.ok.kind hk hc hcell fin hcd) hd
def Aj{i j pos}:PE X (.Constant (.int i) j pos) (tC (.int i)):=fun _ _ _ H _ I h=>wpAny_Constant_int ⟨.int i,H,I.tok _,⟨_,rfl⟩,h⟩
def Es{b j pos}:PE X (.Constant (.bool b) j pos) (tC (.bl b)):=fun _ _ _ H _ I h=>Constant_bool ⟨.bl b,H,I,rfl,h⟩
def b6{j pos}:PE X (.Constant .none j pos) (tC .non):=fun _ _ _ H _ I h=>Constant_none ⟨.non,H,I,rfl,h⟩
def b5{x j pos}:PE X (.Constant (.str x) j pos) (tC (.str x)):=fun _ _ _ H _ I h=>Calls.Constant_str ⟨.str x,H,I.tok _,⟨_,rfl⟩,h⟩
def Gl(X:Cx)(x:Str):Prop:=X.env.kindOf x=some .globalImplicit
def Hr{E:Value->Shared->Prop}{Ac:LAObj}{s:Shared}{σ:St}{H:Hp}{x:Str}{u:Value}{pos:Pos}{Q:Value->Shared->Prop}(I:Inv X Ac σ H s)(hg:Gl X x)(hm:X.mg x=some u)(h:Q u s)
 (hd:(x==("__debug__":Str))=false:=by decide):wpAny (model X.prog X.w) X.A (eval (.Name x pos) X.env) Q E s :=
 Calls.Name_function_global I.ok.kind hg (Calls.loadGlobal_global (by rw[I.ok.glob];exact I.mod.glob.keeps I.bk) hm h) hd
def Mz{E:Value->Shared->Prop}{Ac:LAObj}{s:Shared}{σ:St}{H:Hp}{x:Str}{u:Value}{pos:Pos}{Q:Value->Shared->Prop}(I:Inv X Ac σ H s)(hg:Gl X x)(hm:X.mg x=none)(hv:bootBuiltins x=some u)(h:Q u s)
 (hn:x≠"__name__":=by decide) (hd:(x==("__debug__":Str))=false:=by decide):wpAny (model X.prog X.w) X.A (eval (.Name x pos) X.env) Q E s:=by
 obtain⟨mb,h1,h2⟩:=I.mod.blt;exact Calls.Name_function_global I.ok.kind hg (Calls.loadGlobal_builtin (by rw[I.ok.glob];exact I.mod.glob.keeps I.bk) hm (by rw[I.ok.blt];exact h1.keeps I.bk) ((h2 x hn).trans hv) h) hd
def C8{x:Str}{v:V}{u:Value}{pos:Pos}(hg:Gl X x)(hm:X.mg x=some u)(r:RelV v u)(hd:(x==("__debug__":Str))=false:=by decide):PE X (.Name x pos) (tC v) :=
 fun _ _ _ H _ I h=>Hr I hg hm ⟨v,H,I,r,h⟩ hd
def Fo{x:Str}{v:V}{u:Value}{pos:Pos}(hg:Gl X x)(hm:X.mg x=none)(hv:bootBuiltins x=some u)(r:RelV v u)(hn:x≠"__name__":=by decide)(hd:(x==("__debug__":Str))=false:=by decide):PE X (.Name x pos) (tC v) :=
 fun _ _ _ H _ I h=>Mz I hg hm hv ⟨v,H,I,r,h⟩ hn hd
variable{a b:Expr}{ta tb:TE}{pos:Pos}
def XQ(b:Expr){op:CmpOp}(h:op≠.In)(h2:op≠.NotIn):behindInMarks op b=false:=by
 have e1:(op==CmpOp.In)=false:=by cases op<;>first | rfl | exact absurd rfl h
 have e2:(op==CmpOp.NotIn)=false:=by cases op<;>first | rfl | exact absurd rfl h2
 cases b<;>simp[behindInMarks,e1,e2]
def tB(t:TE):TT:=fun σ H Q=>t σ H fun x H1=>∃c,x=.bl c/\Q c H1
def Db{e:Expr}{t:TE}(h:PE X e t)(he:∀whole,isTrue e X.env whole=(do let v ←whole;standAt e.pos;holding [v] (truthy v)):=by intro _;rfl):PT X e (tB t):=by
 intro Ac s σ H Q I hw;refine isTrue_plain (Cz (h Ac s σ H _ I hw) fun v s1 _z=>?_) (he _);obtain⟨x,H1,I1,r1,q1⟩:=_z;obtain⟨d,rfl,q⟩:=q1;cases r1;exact qg8 ⟨H1,I1,q⟩
variable{tA zB:TT}{rest:List Expr}
def Aa5(t u:TT):TT:=fun σ H Q=>t σ H fun c H1=>if c=true then u σ H1 Q else Q false H1
def tOr(t u:TT):TT:=fun σ H Q=>t σ H fun c H1=>if c=true then Q true H1 else u σ H1 Q
def Aa0(t:TT):TT:=fun σ H Q=>t σ H fun c H1=>Q (!c) H1
theorem N2(ha:PT X a tA):PW X (.BoolOp .And [a] pos) tA:=by
 intro wh Ac s σ H Q I h;refine isTrue_and (Cz (ha Ac s σ H Q I h) fun c s1 e=>?_);cases c with
 | true=>exact isTrue_and_nil e
 | false=>exact e
theorem Mn(ha:PT X a tA):PW X (.BoolOp .Or [a] pos) tA:=by
 intro wh Ac s σ H Q I h;refine isTrue_or (Cz (ha Ac s σ H Q I h) fun c s1 e=>?_);cases c with
 | false=>exact isTrue_or_nil e
 | true=>exact e
theorem Rg(ha:PT X a tA)(hb:PW X (.BoolOp .And (b::rest) pos) zB):PW X (.BoolOp .And (a::b::rest) pos) (Aa5 tA zB):=by
 intro wh Ac s σ H Q I h;refine isTrue_and (Cz (ha Ac s σ H _ I h) fun c s1 _z=>?_);obtain⟨H1,I1,q1⟩:=_z;cases c with
 | true=>exact hb wh Ac s1 σ H1 Q I1 q1
 | false=>exact⟨H1,I1,q1⟩
theorem Oq(ha:PT X a tA)(hb:PW X (.BoolOp .Or (b::rest) pos) zB):PW X (.BoolOp .Or (a::b::rest) pos) (tOr tA zB):=by
 intro wh Ac s σ H Q I h;refine isTrue_or (Cz (ha Ac s σ H _ I h) fun c s1 _z=>?_);obtain⟨H1,I1,q1⟩:=_z;cases c with
 | true=>exact⟨H1,I1,q1⟩
 | false=>exact hb wh Ac s1 σ H1 Q I1 q1
def Em(ha:PT X a tA):PT X (.UnaryOp .Not a pos) (Aa0 tA):=by
 intro Ac s σ H Q I h;exact isTrue_not (ha Ac s σ H (fun c H1=>Q (!c) H1) I h)
def xD(ta tb:TE):TE:=fun σ H Q=>ta σ H fun x H1=>∃c,x=.bl c/\if c=true then tb σ H1 Q else Q (.bl false) H1
def ZZ(ta tb:TE):TE:=fun σ H Q=>ta σ H fun x H1=>∃c,x=.bl c/\if c=true then Q (.bl true) H1 else tb σ H1 Q
def wY(ta:TE):TE:=fun σ H Q=>ta σ H fun x H1=>∃c,x=.bl c/\Q (.bl (!c)) H1
def Mo{op}{t:TE}(h:PE X a t):PE X (.BoolOp op [a] pos) t:=fun Ac s σ H Q I hw=>BoolOp_one (h Ac s σ H Q I hw)
theorem Lf(ha:PE X a ta)(hb:PE X (.BoolOp .And (b::rest) pos) tb):PE X (.BoolOp .And (a::b::rest) pos) (xD ta tb):=by
 intro Ac s σ H Q I h;refine BoolOp_and (Cz (ha Ac s σ H _ I h) fun v s1 _z=>?_);obtain⟨x,H1,I1,r1,q1⟩:=_z;obtain⟨c,rfl,q1⟩:=q1;cases r1;refine qg8 ?_;cases c with
 | true=>exact hb Ac s1 σ H1 Q I1 q1
 | false=>exact⟨.bl false,H1,I1,rfl,q1⟩
theorem xJ(ha:PE X a ta)(hb:PE X (.BoolOp .Or (b::rest) pos) tb):PE X (.BoolOp .Or (a::b::rest) pos) (ZZ ta tb):=by
 intro Ac s σ H Q I h;refine BoolOp_or (Cz (ha Ac s σ H _ I h) fun v s1 _z=>?_);obtain⟨x,H1,I1,r1,q1⟩:=_z;obtain⟨c,rfl,q1⟩:=q1;cases r1;refine qg8 ?_;cases c with
 | false=>exact hb Ac s1 σ H1 Q I1 q1
 | true=>exact⟨.bl true,H1,I1,rfl,q1⟩
def MF(ha:PE X a ta):PE X (.UnaryOp .Not a pos) (wY ta):=by
 intro Ac s σ H Q I h;refine UnaryOp_ (Cz (ha Ac s σ H _ I h) fun v s1 _z=>?_);obtain⟨x,H1,I1,r1,q1⟩:=_z;obtain⟨c,rfl,q1⟩:=q1;cases r1;exact not_of (qg8 ⟨.bl (!c),H1,I1,rfl,q1⟩)
def tIf(t:TT)(ta tb:TE):TE:=fun σ H Q=>t σ H fun c H1=>if c=true then ta σ H1 Q else tb σ H1 Q
theorem mG{c:Expr}(hc:PT X c tA)(ha:PE X a ta)(hb:PE X b tb):PE X (.IfExp c a b pos) (tIf tA ta tb):=by
 intro Ac s σ H Q I h;refine wpAny_IfExp (Cz (hc Ac s σ H _ I h) fun d s1 _z=>?_);obtain⟨H1,I1,q1⟩:=_z;cases d with
 | true=>exact ha Ac s1 σ H1 Q I1 q1
 | false=>exact hb Ac s1 σ H1 Q I1 q1
end
def SqL(K:W.Frag)(H:Hp)(a:Addr)(xs:List V):Prop :=
 Rd H a (.lst xs) ∨
  ∃(o:Obj) (its:Array Value) (n:Nat),K.lookup a=some o/\o.cls=.type "list"/\o.dict=none/\o.data=.seq its n/\its.size<=sizeLine/\Vals xs its.toList
def Fw(K:W.Frag)(H:Hp)(a:Addr)(xs:List V):Prop :=
 Rd H a (.tup xs) ∨
  ∃(o:Obj) (its:Array Value) (n:Nat),K.lookup a=some o/\o.cls=.type "tuple"/\o.dict=none/\o.data=.seq its n/\its.size<=sizeLine/\Vals xs its.toList
noncomputable def Al2:Value->Option V
 | .none=>some .non
 | .bool b=>some (.bl b)
 | .int i _=>some (.int i)
 | .str x _=>some (.str x)
 | .bytes b _=>some (.byt b)
 | .float b _=>some (.flt b)
 | .ref a=>some (.ref a)
 | .type n=>some (.ty n)
 | _=>none
theorem RelV.abs{x:V}{u:Value}(r:RelV x u):Al2 u=some x:=by
 cases x with
 | non=>cases r;rfl
 | bl _=>cases r;rfl
 | int _=>obtain⟨t,rfl⟩:=r;rfl
 | str _=>obtain⟨t,rfl⟩:=r;rfl
 | byt _=>obtain⟨t,rfl⟩:=r;rfl
 | flt _=>obtain⟨t,rfl⟩:=r;rfl
 | ref _=>cases r;rfl
 | ty _=>cases r;rfl
def RelV.inj{x y:V}{u:Value}(r:RelV x u)(q:RelV y u):x=y:=qd4 (r.abs.symm.trans q.abs)
theorem Vals.inj:∀{xs ys:List V}{us:List Value},Vals xs us->Vals ys us->xs=ys
 | _,_,_,.nil,.nil=>rfl
 | _,_,_,.cons r t,.cons r' t'=>by rw[r.inj r',Vals.inj t t']
section
variable{X:Cx}{Ac:LAObj}{σ:St}{H:Hp}{s:Shared}{a:Addr}{xs ys:List V}
def SqL.of{K:W.Frag}(h:H a=some (.lst xs)):SqL K H a xs:=.inl (.inl h)
def Fw.of{K:W.Frag}(h:H a=some (.tup xs)):Fw K H a xs:=.inl (.inl h)
def Inv.list(I:Inv X Ac σ H s)(h:SqL X.K H a xs):∃its:List Value,Vals xs its/\PlainL s.heap a its.toArray/\xs.length<=sizeLine:=by
 rcases h with h|⟨o,its,n,hk,hc,hd,hs,hz,r⟩
 . obtain⟨z,its,n,r,e⟩:=h.ok I.hok;exact⟨its,r,⟨_,n,e,rfl,rfl,rfl⟩,z⟩
 . refine⟨its.toList,r,⟨o,n,I.kIn a o hk,hc,hd,by simpa using hs⟩,?_⟩;have e:=r.length;simp only[qr5]at e;omega
def Inv.tuple(I:Inv X Ac σ H s)(h:Fw X.K H a xs):∃its:List Value,Vals xs its/\IsTup s.heap a its.toArray/\xs.length<=sizeLine:=by
 rcases h with h|⟨o,its,n,hk,hc,_,hs,hz,r⟩
 . obtain⟨z,its,r,p⟩:=h.ok I.hok;exact⟨its,r,p.tup,z⟩
 . refine⟨its.toList,r,⟨o,I.kIn a o hk,hc,n,by simpa using hs⟩,?_⟩;have e:=r.length;simp only[qr5]at e;omega
def Inv.list_inj(I:Inv X Ac σ H s)(h:SqL X.K H a xs)(h':SqL X.K H a ys):xs=ys:=by
 obtain⟨its,r,⟨o,n,e,_,_,d⟩,_⟩:=I.list h;obtain⟨its',r',⟨o',n',e',_,_,d'⟩,_⟩:=I.list h';rw[e]at e';cases e';rw[d]at d';injection d' with d1 _;have:its=its':=by simpa using congrArg Array.toList d1
 subst this;exact r.inj r'
def Inv.tuple_inj(I:Inv X Ac σ H s)(h:Fw X.K H a xs)(h':Fw X.K H a ys):xs=ys:=by
 obtain⟨its,r,⟨o,e,_,n,d⟩,_⟩:=I.tuple h;obtain⟨its',r',⟨o',e',_,n',d'⟩,_⟩:=I.tuple h';rw[e]at e';cases e';rw[d]at d';injection d' with d1 _;have:its=its':=by simpa using congrArg Array.toList d1
 subst this;exact r.inj r'
end
noncomputable abbrev Cx.wish(X:Cx)(E:Value->Shared->Prop):Cx:={ X with xe:=E }
noncomputable abbrev Cx.nox(X:Cx):Cx:=X.wish fun _ _=>False
theorem Cx.Ok.wish{X:Cx}(ok:X.Ok)(E:Value->Shared->Prop):(X.wish E).Ok :=
 ⟨ok.mod,ok.kind,ok.glob,ok.blt,ok.above,ok.inj,ok.has,ok.cab,ok.hd,ok.frames,ok.stk,ok.exf,ok.bs,ok.bsz,ok.noex,ok.exfs,ok.funs,ok.frf⟩
def Cx.Ok.unwish{X:Cx}{E:Value->Shared->Prop}(ok:(X.wish E).Ok):X.Ok :=
 ⟨ok.mod,ok.kind,ok.glob,ok.blt,ok.above,ok.inj,ok.has,ok.cab,ok.hd,ok.frames,ok.stk,ok.exf,ok.bs,ok.bsz,ok.noex,ok.exfs,ok.funs,ok.frf⟩
section
variable{X:Cx}{Ac:LAObj}{σ:St}{H:Hp}{s:Shared}{E:Value->Shared->Prop}
theorem Inv.wish(I:Inv X Ac σ H s)(E:Value->Shared->Prop):Inv (X.wish E) Ac σ H s:=⟨I.ok.wish E,I.os,I.bare,I.base,I.loc,I.cell,I.free,I.freeC,I.pin,I.hok,I.len⟩
theorem Inv.unwish(I:Inv (X.wish E) Ac σ H s):Inv X Ac σ H s:=⟨I.ok.unwish,I.os,I.bare,I.base,I.loc,I.cell,I.free,I.freeC,I.pin,I.hok,I.len⟩
theorem SP.unwish{D:Ends}{f:Flow}{s':Shared}(h:SP (X.wish E) Ac D f s'):SP X Ac D f s':=by
 cases f with
 | next=>obtain⟨σ',H',I,q⟩:=h;exact⟨σ',H',I.unwish,q⟩
 | brk=>obtain⟨σ',H',I,q⟩:=h;exact⟨σ',H',I.unwish,q⟩
 | cont=>obtain⟨σ',H',I,q⟩:=h;exact⟨σ',H',I.unwish,q⟩
 | ret u=>obtain⟨v,σ',H',I,r,q⟩:=h;exact⟨v,σ',H',I.unwish,r,q⟩
theorem dG.nox{st:List Stmt}{t:TS}(h:dG X.nox st t):dG X st t:=fun Ac s σ H D I hw =>
 qe2 (h Ac s σ H D (I.wish _) hw) (fun _ _ q=>q.unwish) fun _ _ z=>False.elim z
end
section
variable{X:Cx}{st:Stmt}{rest:List Stmt}{t u:TS}{e:Expr}{te:TE}{pos:Pos}
def WY:TS:=fun D σ H=>D.nx σ H
def LK(t u:TS):TS:=fun D σ H=>t { D with nx:=u D } σ H
def Bd:dG X [] WY:=fun _ _ σ H _ I h=>qo3 ⟨σ,H,I,h⟩
theorem Af(h1:PS X st t)(h2:dG X rest u):dG X (st::rest) (LK t u):=by
 intro Ac s σ H D I h;refine wpAny_execs_cons (Cz (h1 Ac s σ H { D with nx:=u D } I h) fun f s1 q=>?_);cases f with
 | next =>
   obtain⟨σ',H',I',q⟩:=q;exact h2 Ac s1 σ' H' D I' q
 | ret v=>exact q
 | brk=>exact q
 | cont=>exact q
theorem Ak(h1:PS X st t):dG X [st] t:=by
 intro Ac s σ H D I h;refine wpAny_execs_cons (Cz (h1 Ac s σ H D I h) fun f s1 q=>?_);cases f with
 | next=>exact qo3 q
 | ret v=>exact q
 | brk=>exact q
 | cont=>exact q
def Inv.quiet{Ac:LAObj}{σ:St}{H:Hp}{s:Shared}(I:Inv X Ac σ H s):interactive X.env=false:=by simp[interactive,I.ok.kind]
def WZ(te:TE):TS:=fun D σ H=>te σ H fun _ H1=>D.nx σ H1
def Cf(he:PE X e te)(hs:swapsWith e none pos.line X.env=pure false:=by rfl):PS X (.Expr e pos) (WZ te):=by
 intro Ac s σ H D I h;exact wpAny_Expr_any (Cz (he Ac s σ H _ I h) fun v s1 ⟨x,H1,I1,r1,q1⟩=>⟨σ,H1,I1,q1⟩) I.quiet hs
def zZ(te:TE):TS:=fun D σ H=>te σ H D.rt
def A8(he:PE X e te):PS X (.Return (some e) pos) (zZ te):=by
 intro Ac s σ H D I h;exact wpAny_Return_some (Cz (he Ac s σ H _ I h) fun v s1 ⟨x,H1,I1,r1,q1⟩=>⟨x,σ,H1,I1,r1,q1⟩)
def Aa3(c:TT)(t u:TS):TS:=fun D σ H=>c σ H fun b H1=>if b=true then t D σ H1 else u D σ H1
theorem Br{c:Expr}{a b:List Stmt}{tc:TT}(hc:PT X c tc)(ha:dG X a t)(hb:dG X b u):PS X (.If c a b pos) (Aa3 tc t u):=by
 intro Ac s σ H D I h;refine wpAny_If (Cz (hc Ac s σ H _ I h) fun d s1 _z=>?_);obtain⟨H1,I1,q1⟩:=_z;cases d with
 | true=>exact ha Ac s1 σ H1 D I1 q1
 | false=>exact hb Ac s1 σ H1 D I1 q1
def tR:TS:=fun _ _ _=>False
def lZ:PS X st tR:=fun _ _ _ _ _ _ h=>h.elim
end
abbrev TG:=V->St->Hp->(St->Hp->Prop)->Prop
abbrev SY:=List V->St->Hp->(St->Hp->Prop)->Prop
def PG(X:Cx)(target:Expr)(t:TG):Prop :=
 ∀(Ac:LAObj) (s:Shared) (σ:St) (H:Hp) (v:V) (u:Value) (Q:St->Hp->Prop),Inv X Ac σ H s->RelV v u->t v σ H Q →
   wpAny (model X.prog X.w) X.A (assign target X.env u) (fun _ s'=>∃σ' H',Inv X Ac σ' H' s'/\Q σ' H') X.xe s
def YY(X:Cx)(ts:List Expr)(t:SY):Prop :=
 ∀(Ac:LAObj) (s:Shared) (σ:St) (H:Hp) (vs:List V) (us:List Value) (Q:St->Hp->Prop),Inv X Ac σ H s->Vals vs us->t vs σ H Q →
   wpAny (model X.prog X.w) X.A (assignInOrder ((assignEach ts X.env).map (·.2)) us) (fun _ s'=>∃σ' H',Inv X Ac σ' H' s'/\Q σ' H') X.xe s
section
variable{X:Cx}{pos:Pos}
def Yt(i:Nat):TG:=fun v σ H Q=>Q (σ.set i (some v)) H
def QG{i:Nat}{x:Str}(hN:X.N.Nodup)(hi:X.N[i]?=some x)(hx:WH X.env.scope x)(hf:X.fn x=true\/X.env.scope.names.lookup x=some .local:=by first | exact .inl rfl | exact .inr rfl | assumption):PG X (.Name x pos) (Yt i):=by
 intro Ac s σ H v u Q I r h;exact wpAny_assign_Name (Ub I hN hi hx r (fun s' I'=>⟨_,H,I',h⟩) hf)
def A1{i:Nat}{x:Str}(hN:X.N.Nodup)(hi:X.N[i]?=some x:=by rfl)(hx:WH X.env.scope x:=by first | exact Or.inl rfl | exact Or.inr rfl)(hf:X.fn x=true\/X.env.scope.names.lookup x=some .local:=by first | exact .inl rfl | exact .inr rfl | assumption):PG X (.Name x pos) (Yt i):=QG hN hi hx hf
def Ak4:SY:=fun vs σ H Q=>vs=[]/\Q σ H
def YN(t:TG)(u:SY):SY:=fun vs σ H Q=>∃v r,vs=v::r/\t v σ H fun σ' H'=>u r σ' H' Q
def Di:YY X [] Ak4:=by
 intro Ac s σ H vs us Q I r h;obtain⟨e,h⟩:=h;subst e;cases r;exact assignInOrder_nil ⟨σ,H,I,h⟩
theorem Bq{e:Expr}{es:List Expr}{t:TG}{u:SY}(h1:PG X e t)(h2:YY X es u)
 (hs:(assignEach (e::es) X.env).map (·.2)=assign e X.env::(assignEach es X.env).map (·.2):=by rfl):YY X (e::es) (YN t u):=by
 intro Ac s σ H vs us Q I r h;obtain⟨v,vr,e1,h⟩:=h;subst e1;cases r with
 | cons r rr =>
   rw[hs];refine assignInOrder_cons (Cz (h1 Ac s σ H _ _ _ I r h) fun _ s1 _z=>?_);obtain⟨σ1,H1,I1,q1⟩:=_z;exact h2 Ac s1 σ1 H1 _ _ Q I1 rr q1
def yN(K:W.Frag)(n:Nat)(t:SY):TG:=fun v σ H Q=>∃a xs,v=.ref a/\Fw K H a xs/\xs.length=n/\t xs σ H Q
def uH{es:List Expr}{k:Nat}{t:SY}{n:Nat}(hc:X.calm=true)(h:YY X es t)
 (hn:(assignEach es X.env).length=n:=by rfl) (hst:(assignEach es X.env).findIdx? (·.1)=none:=by rfl):PG X (.Tuple es k pos) (yN X.K n t):=by
 intro Ac s σ H v u Q I r hw;obtain⟨a,xs,e1,hq,hl,hw⟩:=hw;subst e1;cases r;obtain⟨its,rv,ht,hz⟩:=I.tuple hq;refine assign_Tuple_tuple (I.ok.hd hc) ht (by simp[hn,←hl,rv.length]) hst fun h' hx=>?_;have I1:Inv X Ac σ H { s with heap:=h' }:=I.kept (t':=s.toks) fun b o e=>hx b o (qb8 (qa9 e)) e;exact h Ac _ σ H xs _ Q I1 (by simpa using rv) hw
def tV(te:TE)(g:TG):TS:=fun D σ H=>te σ H fun x H1=>g x σ H1 D.nx
def uD{i:Nat}{x:Str}{e:Expr}{te:TE}{pos':Pos}(hN:X.N.Nodup)(hi:X.N[i]?=some x)(hx:WH X.env.scope x)(he:PE X e te)(hs:swapsWith e (some (.Name x pos')) pos.line X.env=pure false:=by rfl)(hf:X.fn x=true\/X.env.scope.names.lookup x=some .local:=by first | exact .inl rfl | exact .inr rfl | assumption) :
 PS X (.Assign [.Name x pos'] e pos) (tV te (Yt i)):=by
 intro Ac s σ H D I h;refine wpAny_Assign_Name (Cz (he Ac s σ H _ I h) fun v s1 _z=>?_) hs;obtain⟨y,H1,I1,r1,q1⟩:=_z;exact Ub I1 hN hi hx r1 (fun s2 I2=>⟨_,H1,I2,q1⟩) hf
def Aq{i:Nat}{x:Str}{e:Expr}{te:TE}{pos':Pos}(hN:X.N.Nodup)(he:PE X e te)(hi:X.N[i]?=some x:=by rfl)(hx:WH X.env.scope x:=by first | exact Or.inl rfl | exact Or.inr rfl)(hs:swapsWith e (some (.Name x pos')) pos.line X.env=pure false:=by rfl)(hf:X.fn x=true\/X.env.scope.names.lookup x=some .local:=by first | exact .inl rfl | exact .inr rfl | assumption):PS X (.Assign [.Name x pos'] e pos) (tV te (Yt i)):=uD hN hi hx he hs hf
end
section
variable{X:Cx}{pos:Pos}
def tQ(c:TT)(tb:TS):TS:=fun D σ H=>∃W:Nat->St->Hp->Prop,(∃m,W m σ H)/\∀m σ H,W m σ H →
 c σ H fun b H1=>if b=true then ∃N:St->Hp->Prop,(∀σ' H',N σ' H'->∃m',m'<m/\W m' σ' H')/\tb { D with nx:=N,ct:=N,bk:=D.nx } σ H1 else D.nx σ H1
theorem LX{c:Expr}{body:List Stmt}{tc:TT}{tb:TS}(hp:PassesOwn (model X.prog X.w) X.A X.env X.xe)(hc:PT X c tc)(hb:dG X body tb):PS X (.While c body [] pos) (tQ tc tb):=by
 intro Ac s σ H D I h;obtain⟨W,⟨m0,w0⟩,turn⟩:=h;refine wpAny_While (codeAny_whileLoop (fun n s'=>∃σ' H',Inv X Ac σ' H' s'/\W n σ' H') ?_ m0 ⟨σ,H,I,w0⟩);rintro n s1 ⟨σ1,H1,I1,w1⟩;refine qk5 hp (Cz (hc Ac s1 σ1 H1 _ I1 (turn n σ1 H1 w1)) fun b s2 _z=>?_);obtain⟨H2,I2,q2⟩:=_z;cases b with
 | true =>
   obtain⟨N,hN,q2⟩:=q2;rw[if_pos rfl];refine qk5 hp (Cz (hb Ac s2 σ1 H2 _ I2 q2) fun f s3 q3=>?_);cases f with
   | next =>
     obtain⟨σ3,H3,I3,n3⟩:=q3;obtain⟨m',hm,w3⟩:=hN σ3 H3 n3;exact⟨m',hm,σ3,H3,I3,w3⟩
   | cont =>
     obtain⟨σ3,H3,I3,n3⟩:=q3;obtain⟨m',hm,w3⟩:=hN σ3 H3 n3;exact⟨m',hm,σ3,H3,I3,w3⟩
   | brk=>exact q3
   | ret v=>exact q3
 | false =>
   rw[if_neg qc2];exact qo3 ⟨σ1,H2,I2,q2⟩
end
structure It where
 go:Nat->Hp->Prop
 yld:Nat->Hp->V->Hp->Prop
 stop:Nat->Hp->Prop
def Oo(X:Cx)(Ac:LAObj)(H:Hp)(b:Addr):Prop :=
 H b=none/\b≠X.env.locals/\b ∉ X.fs/\(b∈X.ex\/X.s₀.heap.objs.size<=b)/\(∀x c,X.env.cells.lookup x=some c->c≠b)/\∀p∈X.pn++Ac,p.1≠b
def Inv.fpOk{X:Cx}{Ac:LAObj}{σ:St}{H H':Hp}{s:Shared}{b:Addr}(I:Inv X Ac σ H s)(hb:s.heap.objs.size<=b)(hn:H' b=none):Oo X Ac H' b:=by
 refine⟨hn,qi5 (qc5 I.lt hb),I.nofs hb,.inr (qe5 I.sz hb),fun x c e z=>?_,fun p hp z=>?_⟩
 . obtain⟨v,q⟩:=I.cell x c e;exact absurd (qc5 q.lt (by rw[z];exact hb)) (qh7 _)
 . exact absurd (qc5 (qa9 (I.pin p hp).1) (by rw[z];exact hb)) (qh7 _)
structure Xt(P:Program)(w:World)(K:W.Frag)(tg:Expr)(J:It)(fp:List Addr)(it:Addr)(tn:Nat->Heap->Prop):Prop where
 mem:it∈fp
 obj:∀i h,tn i h->∀b∈fp,∃o,h.get? b=some o/\∀v,o.data≠.cell v
 keep:∀i h h',tn i h->(∀b∈fp,∀o,h.get? b=some o->h'.get? b=some o)->tn i h'
 item:∀(X:Cx),X.prog=P->X.w=w->X.K=K->X.calm=true->∀(i:Nat) (Ac:LAObj) (s:Shared) (σ:St) (H:Hp) (E:Value->Shared->Prop),Inv X Ac σ H s->(∀b∈fp,Oo X Ac H b)->tn i s.heap->J.go i H →
  wpAny (model P w) X.A (pyNext (.ref it)) (fun r s1=>∃u,r=some u ∧
   wpAny (model P w) X.A (letOwnedTupleGo tg (.ref it) u) (fun _ s2=>∃x H',Inv X Ac σ H' s2/\RelV x u/\J.yld i H x H'/\tn (i+1) s2.heap/\∀b∈fp,H' b=none) E s1) E s
 done:∀(X:Cx),X.prog=P->X.w=w->X.K=K->X.calm=true->∀(i:Nat) (Ac:LAObj) (s:Shared) (σ:St) (H:Hp) (E:Value->Shared->Prop),Inv X Ac σ H s->(∀b∈fp,Oo X Ac H b)->tn i s.heap->J.stop i H →
  wpAny (model P w) X.A (pyNext (.ref it)) (fun r s1=>r=none/\Inv X Ac σ H s1) E s
 self:∀(A:Around) (i:Nat) (s:Shared) (Q:Value->Shared->Prop) (E:Value->Shared->Prop),tn i s.heap->Q (.ref it) s->wpAny (model P w) A (pyIter (.ref it)) Q E s
abbrev TI:=St->Hp->(It->Hp->Prop)->Prop
def PIE(X:Cx)(Ac:LAObj)(σ:St)(tg:Expr)(R:It->Hp->Prop)(itv:Value)(s2:Shared):Prop :=
 ∃(it:Addr) (fp:List Addr) (tn:Nat->Heap->Prop) (J:It) (H':Hp),itv=.ref it/\Inv X Ac σ H' s2/\Xt X.prog X.w X.K tg J fp it tn/\tn 0 s2.heap/\(∀b∈fp,Oo X Ac H' b)/\R J H'
def PI(X:Cx)(tg iter:Expr)(wi:TI):Prop :=
 ∀(Ac:LAObj) (s:Shared) (σ:St) (H:Hp) (R:It->Hp->Prop),Inv X Ac σ H s->wi σ H R →
   wpAny (model X.prog X.w) X.A (eval iter X.env) (fun v s1=>wpAny (model X.prog X.w) X.A (pyIter v) (PIE X Ac σ tg R) X.xe s1) X.xe s
theorem nX{M:Model}{A:Around}{E:Value->Shared->Prop}{s:Shared}{tg:Expr}{it:Addr}{u:Value}{o:Obj}{n:String}{vs:Array Value}{Q:Unit->Shared->Prop}(ho:s.heap.get? it=some o)(hc:o.cls=.type n)(hd:o.data=.fields vs)
 (hn:["enumerate","zip","dict_itemiterator","dict_reverseitemiterator","odict_iterator","itertools.zip_longest","itertools.pairwise"].contains n=false) (hQ:Q () s):wpAny M A (letOwnedTupleGo tg (.ref it) u) Q E s:=by
 unfold letOwnedTupleGo
 cases tg<;>first
  | exact qa6 hQ
  | (cases u<;>first
      | exact qa6 hQ
      | (refine qa1 (wpAny_load ho ?_)
         rw[hc,hd];show wpAny M A (if (["enumerate","zip","dict_itemiterator","dict_reverseitemiterator","odict_iterator","itertools.zip_longest","itertools.pairwise"].contains n&&vs[0]?==some (rawInt _))=true then _ else _) Q E s;rw[if_neg (by intro h;rw[hn,Bool.false_and]at h;cases h)];exact qa6 hQ))
noncomputable def WI(K:W.Frag)(a:Addr):It :=
 ⟨fun i H=>∃xs x,SqL K H a xs/\xs[i]?=some x,fun i H x H'=>H'=H/\∀xs,SqL K H a xs->xs[i]?=some x,fun i H=>∃xs,SqL K H a xs/\xs.length<=i⟩
noncomputable def wI(K:W.Frag)(a:Addr):It :=
 ⟨fun i H=>∃xs x,Fw K H a xs/\xs[i]?=some x,fun i H x H'=>H'=H/\∀xs,Fw K H a xs->xs[i]?=some x,fun i H=>∃xs,Fw K H a xs/\xs.length<=i⟩
noncomputable def tE(lo:Int)(n:Nat):It:=⟨fun i _=>i<n,fun i H x H'=>H'=H/\x=.int (lo+i),fun i _=>n<=i⟩
def IC{P:Program}{w:World}{K:W.Frag}{tg:Expr}(a it:Addr):Xt P w K tg (WI K a) [it] it (fun i h=>h.IsListIter it a i) where
 mem:=by simp
 obj:=fun i h st b hb=>by
  have e:b=it:=by simpa using hb
  subst e;obtain⟨o,e,c,d⟩:=st;exact⟨o,e,fun v z=>by rw[d]at z;cases z⟩
 keep:=fun i h h' st k=>st.at fun o e=>k it (by simp) o e
 item:=by
  intro X hP hw hK hc i Ac s σ H E I hf st hg;subst hP hw hK;obtain⟨xs,x,hq,hx⟩:=hg;obtain⟨its,rv,p,hz⟩:=I.list hq;obtain⟨u,hu,ru⟩:=rv.get hx;obtain⟨f0,f1,f2,f3,f4,f5⟩:=hf it (by simp);refine wpAny_pyNext_list_item st p.isList (x:=u) (by simpa using hu) fun h' st' sb=>?_;have I1:Inv X Ac σ H { s with heap:=h' }:=I.turned (t':=s.toks) (fun b o hb e=>(sb.2 b hb).trans e) f0 f1 f3 f4 f5;obtain⟨o,e,c,d⟩:=id st';exact⟨u,rfl,nX (s:={ s with heap:=h' }) e c d (by decide) ⟨x,H,I1,ru,⟨rfl,fun ys hy=>by rw[I.list_inj hy hq];exact hx⟩,st',fun b hb=>(hf b hb).1⟩⟩
 done:=by
  intro X hP hw hK hc i Ac s σ H E I hf st hg;subst hP hw hK;obtain⟨xs,hq,hx⟩:=hg;obtain⟨its,rv,p,hz⟩:=I.list hq;obtain⟨f0,f1,f2,f3,f4,f5⟩:=hf it (by simp);have hl:=rv.length;exact wpAny_pyNext_list_end (I.ok.hd hc) st p.isList (by simp;omega) fun h' eb=>⟨rfl,I.turned (t':=s.toks) (fun b o hb e=>eb b o hb e) f0 f1 f3 f4 f5⟩
 self:=fun _ _ _ _ _ st h=>wpAny_pyIter_listiter st h
def DO{P:Program}{w:World}{K:W.Frag}{tg:Expr}(a it:Addr):Xt P w K tg (wI K a) [it] it (fun i h=>h.IsTupleIter it a i) where
 mem:=by simp
 obj:=fun i h st b hb=>by
  have e:b=it:=by simpa using hb
  subst e;obtain⟨o,e,c,d⟩:=st;exact⟨o,e,fun v z=>by rw[d]at z;cases z⟩
 keep:=fun i h h' st k=>st.at fun o e=>k it (by simp) o e
 item:=by
  intro X hP hw hK hc i Ac s σ H E I hf st hg;subst hP hw hK;obtain⟨xs,x,hq,hx⟩:=hg;obtain⟨its,rv,p,hz⟩:=I.tuple hq;obtain⟨u,hu,ru⟩:=rv.get hx;obtain⟨f0,f1,f2,f3,f4,f5⟩:=hf it (by simp);refine wpAny_pyNext_tuple_item st (show s.heap.IsTuple a its.toArray from p) (x:=u) (by simpa using hu) fun h' st' sb=>?_;have I1:Inv X Ac σ H { s with heap:=h' }:=I.turned (t':=s.toks) (fun b o hb e=>(sb.2 b hb).trans e) f0 f1 f3 f4 f5;obtain⟨o,e,c,d⟩:=id st';exact⟨u,rfl,nX (s:={ s with heap:=h' }) e c d (by decide) ⟨x,H,I1,ru,⟨rfl,fun ys hy=>by rw[I.tuple_inj hy hq];exact hx⟩,st',fun b hb=>(hf b hb).1⟩⟩
 done:=by
  intro X hP hw hK hc i Ac s σ H E I hf st hg;subst hP hw hK;obtain⟨xs,hq,hx⟩:=hg;obtain⟨its,rv,p,hz⟩:=I.tuple hq;obtain⟨f0,f1,f2,f3,f4,f5⟩:=hf it (by simp);have hl:=rv.length;exact wpAny_pyNext_tuple_end (I.ok.hd hc) st (show s.heap.IsTuple a its.toArray from p) (by simp;omega) fun h' eb=>⟨rfl,I.turned (t':=s.toks) (fun b o hb e=>eb b o hb e) f0 f1 f3 f4 f5⟩
 self:=fun _ _ _ _ _ st h=>wpAny_pyIter_tupleiter st h
def dP{P:Program}{w:World}{K:W.Frag}{tg:Expr}(it:Addr)(lo:Int)(n:Nat):Xt P w K tg (tE lo n) [it] it (fun i h=>IsRangeIter h it (lo+(i:Nat)*1) ((n:Int)-(i:Nat)) 1) where
 mem:=by simp
 obj:=fun i h st b hb=>by
  have e:b=it:=by simpa using hb
  subst e
  exact⟨_,st,fun v z=>by
   have z':Data.fields _=Data.cell v:=z;cases z'⟩
 keep:=fun i h h' st k=>k it (by simp) _ st
 item:=by
  intro X hP hw hK hc i Ac s σ H E I hf st hg;subst hP hw hK;obtain⟨f0,f1,f2,f3,f4,f5⟩:=hf it (by simp);have W:=Walks.range (prog:=X.prog) (w:=X.w) (I.ok.hd hc) it lo 1 n;refine W.item i s _ _ hg st fun v h' tk hv st' kk=>?_;obtain⟨t,rfl⟩:=hv;have I1:Inv X Ac σ H { s with heap:=h',toks:=tk }:=I.turned (fun b o hb e=>kk b o (by simpa using hb) e) f0 f1 f3 f4 f5;refine⟨_,rfl,nX (s:={ s with heap:=h',toks:=tk }) (n:="range_iterator") st' rfl rfl (by decide) ⟨.int (lo+i),H,I1,⟨t,?_⟩,⟨rfl,rfl⟩,st',fun b hb=>(hf b hb).1⟩⟩;rw[Int.mul_one]
 done:=by
  intro X hP hw hK hc i Ac s σ H E I hf st hg;subst hP hw hK;obtain⟨f0,f1,f2,f3,f4,f5⟩:=hf it (by simp);exact wpAny_pyNext_range_end (I.ok.hd hc) st (by have:n<=i:=hg;omega) fun h' eb=>⟨rfl,I.turned (t':=s.toks) (fun b o hb e=>eb b o hb e) f0 f1 f3 f4 f5⟩
 self:=fun _ _ _ _ _ st h=>wpAny_pyIter_rangeiter st h
section
variable{X:Cx}{tg:Expr}
def SM(K:W.Frag)(tl:TE):TI:=fun σ H R=>tl σ H fun x H1=>∃a,x=.ref a/\(∃xs,SqL K H1 a xs)/\R (WI K a) H1
def XY(K:W.Frag)(tl:TE):TI:=fun σ H R=>tl σ H fun x H1=>∃a,x=.ref a/\(∃xs,Fw K H1 a xs)/\R (wI K a) H1
def QF{l:Expr}{tl:TE}(hl:PE X l tl):PI X tg l (SM X.K tl):=by
 intro Ac s σ H R I h;refine Cz (hl Ac s σ H _ I h) fun v s1 _z=>?_;obtain⟨x,H1,I1,r1,q1⟩:=_z;obtain⟨a,e,⟨xs,hq⟩,q⟩:=q1;subst e;cases r1;obtain⟨its,rv,p,hz⟩:=I1.list hq;refine ql3 p.isList ?_;refine⟨s1.heap.objs.size,[s1.heap.objs.size],_,_,H1,rfl,I1.kept (t':=s1.toks) fun b o e=>qa4 _ e,IC a _,⟨_,qb3 _ rfl,rfl,rfl⟩,fun b hb=>?_,q⟩;have e:b=s1.heap.objs.size:=by simpa using hb
 subst e;exact I1.fpOk (qa8 _) (I1.hok.fresh (qa8 _))
def UG{l:Expr}{tl:TE}(hl:PE X l tl):PI X tg l (XY X.K tl):=by
 intro Ac s σ H R I h;refine Cz (hl Ac s σ H _ I h) fun v s1 _z=>?_;obtain⟨x,H1,I1,r1,q1⟩:=_z;obtain⟨a,e,⟨xs,hq⟩,q⟩:=q1;subst e;cases r1;obtain⟨its,rv,p,hz⟩:=I1.tuple hq;refine qp4 (show s1.heap.IsTuple a its.toArray from p) ?_;refine⟨s1.heap.objs.size,[s1.heap.objs.size],_,_,H1,rfl,I1.kept (t':=s1.toks) fun b o e=>qa4 _ e,DO a _,⟨_,qb3 _ rfl,rfl,rfl⟩,fun b hb=>?_,q⟩;have e:b=s1.heap.objs.size:=by simpa using hb
 subst e;exact I1.fpOk (qa8 _) (I1.hok.fresh (qa8 _))
def lV{Ac:LAObj}{σ:St}{H:Hp}{s:Shared}{R:It->Hp->Prop}{E:Value->Shared->Prop}{lo hi:Int}{t u v:Tok}{tk:Nat}(I:Inv X Ac σ H s)(h1:-(2 ^ 62)<=lo)(h2:lo<2 ^ 62)(h3:-(2 ^ 62)<=hi)(h4:hi<2 ^ 62)
 (q:R (tE lo (hi-lo).toNat) H):wpAny (model X.prog X.w) X.A (pyIter (.ref s.heap.objs.size)) (PIE X Ac σ tg R) E { s with heap:=s.heap.push { cls:=.type "range",data:=.fields #[.int lo t,.int hi u,.int 1 v] },toks:=tk }:=by
 refine wpAny_pyIter_range (IsRange.new ..) (small_one h1 h2 h3 h4) ?_;have I1:Inv X Ac σ H { s with heap:=s.heap.push { cls:=.type "range",data:=.fields #[.int lo t,.int hi u,.int 1 v] },toks:=tk }:=I.kept fun b o e=>qa4 _ e
 refine⟨(s.heap.push { cls:=.type "range",data:=.fields #[.int lo t,.int hi u,.int 1 v] }).objs.size,[(s.heap.push { cls:=.type "range",data:=.fields #[.int lo t,.int hi u,.int 1 v] }).objs.size],_,_,H,rfl,
  I1.kept (t':=tk) fun b o e=>qa4 _ e,dP _ lo (hi-lo).toNat,?_,fun b hb=>?_,q⟩
 . have e1:lo+((0:Nat):Int)*1=lo:=by simp
   have e2:(((hi-lo).toNat:Nat):Int)-((0:Nat):Int)=Builtin.Range.rangeSize lo hi 1:=by rw[rangeSize_one];split<;>omega
   show IsRangeIter _ _ (lo+((0:Nat):Int)*1) ((((hi-lo).toNat:Nat):Int)-((0:Nat):Int)) 1;rw[e1,e2];exact qb3 _ rfl
 . have e:b=(s.heap.push { cls:=.type "range",data:=.fields #[.int lo t,.int hi u,.int 1 v] }).objs.size:=by simpa using hb
   subst e;exact I1.fpOk (qa8 _) (I1.hok.fresh (qa8 _))
def xZ(ta:TA):TI:=fun σ H R=>ta σ H fun vs H1=>∃j:Int,vs=[.int j]/\-(2 ^ 62)<=j/\j<2 ^ 62/\R (tE 0 j.toNat) H1
theorem B1{a:Expr}{ta:TA}{p pos:Pos}(hg:Gl X "range")(hm:X.mg "range"=none)(ha:PA X [a] ta)(hs:starEach [a] X.env=[(false,eval a X.env)]:=by rfl):PI X tg (.Call (.Name "range" p) [a] [] pos) (xZ ta):=by
 intro Ac s σ H R I h;refine Call_ (Mz I hg hm boot_range (qg9 (Cz (ha pos Ac s σ H _ I h) fun us s1 _z=>?_) hs rfl));obtain⟨vs,H1,I1,r1,q1⟩:=_z;obtain⟨j,e,q1,q2,q⟩:=q1;subst e;cases r1 with
 | cons r rr =>
   cases rr;obtain⟨t,rfl⟩:=r;exact call_range_1 (lV I1 (by omega) (by omega) q1 q2 (by simpa using q))
def Aa4(wi:TI)(g:TG)(tb:TS):TS:=fun D σ H=>wi σ H fun J H1=>∃W:Nat->Nat->St->Hp->Prop,(∃m,W 0 m σ H1)/\∀i m σ H,W i m σ H →
 (J.stop i H/\D.nx σ H)\/(J.go i H/\∃N:St->Hp->Prop,(∀σ' H',N σ' H'->∃m',m'<m/\W (i+1) m' σ' H')/\∀x H',J.yld i H x H'->g x σ H' fun σ2 H2=>tb { D with nx:=N,ct:=N,bk:=D.nx } σ2 H2)
noncomputable def Ul(fp:List Addr)(h:Heap):LAObj:=fp.filterMap fun b=>(h.get? b).map fun o=>(b,o)
def Lj{fp:List Addr}{h:Heap}{b:Addr}{o:Obj}(hb:b∈fp)(e:h.get? b=some o):(b,o)∈Ul fp h:=qn9.mpr ⟨b,hb,by rw[e];rfl⟩
theorem jA{fp:List Addr}{h:Heap}{p:Addr × Obj}(hp:p∈Ul fp h):p.1∈fp/\h.get? p.1=some p.2:=by
 obtain⟨b,hb,e⟩:=qn9.mp hp;cases q:h.get? b with
 | none=>rw[q]at e;cases e
 | some o =>
   rw[q]at e;have e':(b,o)=p:=qd4 e;subst e';exact⟨hb,q⟩
def Inv.pinned{Ac:LAObj}{σ:St}{H:Hp}{s:Shared}{fp:List Addr}(I:Inv X Ac σ H s)(hf:∀b∈fp,Oo X Ac H b)(ho:∀b∈fp,∃o,s.heap.get? b=some o/\∀v,o.data≠.cell v):Inv X (Ac++Ul fp s.heap) σ H s :=
 I.pins_of fun p hp=>(qd6.mp hp).elim (fun z=>I.pin p (qe8 _ z)) fun z=>by
  obtain⟨hb,e⟩:=jA z;obtain⟨f0,f1,f2,_⟩:=hf p.1 hb;obtain⟨o,e',d⟩:=ho p.1 hb;rw[e]at e';cases e';exact⟨e,f0,f1,f2,d⟩
def Inv.unpinned{Ac pl:LAObj}{σ:St}{H:Hp}{s:Shared}(I:Inv X (Ac++pl) σ H s):Inv X Ac σ H s:=I.pins_of fun p hp=>I.pin p (qe8 _ (qk4 _ hp))
theorem B3{iter:Expr}{body:List Stmt}{wi:TI}{g:TG}{tb:TS}{pos:Pos}(hp:PassesOwn (model X.prog X.w) X.A X.env X.xe)(hc:X.calm=true)(hi:PI X tg iter wi)(hg:PG X tg g)(hb:dG X body tb)
 (hs:∀x,foldedSetIterable iter X.env x=pure x:=by intro _;rfl):PS X (.For tg iter body [] pos) (Aa4 wi g tb):=by
 intro Ac s σ H D I h;refine wpAny_For (Cz (hi Ac s σ H _ I h) fun v s1 h1=>Cz h1 fun itv s2 h2=>?_) hs;obtain⟨it,fp,tn,J,H2,e,I2,T,st2,f2,W,⟨m0,w0⟩,turn⟩:=h2;subst e;have DQ:∀{H':Hp},(∀b∈fp,H' b=none)->∀b∈fp,Oo X Ac H' b:=fun hn b hb=>⟨hn b hb,(f2 b hb).2⟩
 refine codeAny_forLoop_any (fun n s'=>∃i σ' H',Inv X Ac σ' H' s'/\tn i s'.heap/\(∀b∈fp,H' b=none)/\W i n σ' H') ?_ m0 ⟨0,σ,H2,I2,st2,fun b hb=>(f2 b hb).1,w0⟩;rintro n s3 ⟨i,σ3,H3,I3,st3,yP,w3⟩;rcases turn i n σ3 H3 w3 with⟨stop,qn⟩|⟨go,N,hN,step⟩
 . refine qk5 hp (Cz (T.done X rfl rfl rfl hc i Ac s3 σ3 H3 X.xe I3 (DQ yP) st3 stop) fun r s4 _z=>?_);obtain⟨hr,I4⟩:=_z;subst hr;exact qo3 ⟨σ3,H3,I4,qn⟩
 . refine qk5 hp (Cz (T.item X rfl rfl rfl hc i Ac s3 σ3 H3 X.xe I3 (DQ yP) st3 go) fun r s4 _z=>?_);obtain⟨u,hr,h4⟩:=_z;subst hr;refine qk5 hp (Cz h4 fun _ s5 _z=>?_);obtain⟨x,H5,I5,r5,y5,TV,fr5⟩:=_z;have I5':=I5.pinned (DQ fr5) (T.obj _ _ TV);refine qk5 hp (Cz (hg _ s5 σ3 H5 x u _ I5' r5 (step x H5 y5)) fun _ s6 _z=>?_);obtain⟨σ6,H6,I6,q6⟩:=_z;refine qk5 hp (Cz (hb _ s6 σ6 H6 _ I6 q6) fun f s7 q7=>?_)
   have again:∀{σ7:St}{H7:Hp},Inv X (Ac++Ul fp s5.heap) σ7 H7 s7->N σ7 H7->∃m,m<n/\∃i σ' H',Inv X Ac σ' H' s7/\tn i s7.heap/\(∀b∈fp,H' b=none)/\W i m σ' H':=fun {σ7 H7} I7 n7=>by
    obtain⟨m',hm,w7⟩:=hN σ7 H7 n7;refine⟨m',hm,i+1,σ7,H7,I7.unpinned,T.keep _ _ _ TV fun b hb o e=>(I7.pin (b,o) (qe8 _ (qe8 _ (Lj hb e)))).1,fun b hb=>?_,w7⟩;obtain⟨o,e,d⟩:=T.obj _ _ TV b hb;exact(I7.pin (b,o) (qe8 _ (qe8 _ (Lj hb e)))).2.1
   cases f with
   | next=>obtain⟨σ7,H7,I7,n7⟩:=q7;exact again I7 n7
   | cont=>obtain⟨σ7,H7,I7,n7⟩:=q7;exact again I7 n7
   | brk=>obtain⟨σ7,H7,I7,q7⟩:=q7;exact⟨σ7,H7,I7.unpinned,q7⟩
   | ret v=>obtain⟨x7,σ7,H7,I7,r7,q7⟩:=q7;exact⟨x7,σ7,H7,I7.unpinned,r7,q7⟩
end
def for_list{K:W.Frag}{a:Addr}{xs:List V}{g:TG}{tb:TS}{D:Ends}{σ:St}{H:Hp}(Pv:Nat->St->Hp->Prop)(h0:Pv 0 σ H)(hl:∀i σ H,i<=xs.length->Pv i σ H->SqL K H a xs)
 (hs:∀i x σ H,xs[i]?=some x->Pv i σ H->g x σ H fun σ2 H2=>tb { D with nx:=Pv (i+1),ct:=Pv (i+1),bk:=D.nx } σ2 H2) (hd:∀σ H,Pv xs.length σ H->D.nx σ H) :
 ∃W:Nat->Nat->St->Hp->Prop,(∃m,W 0 m σ H)/\∀i m σ H,W i m σ H →
   ((WI K a).stop i H/\D.nx σ H)\/((WI K a).go i H/\∃N:St->Hp->Prop,(∀σ' H',N σ' H'->∃m',m'<m/\W (i+1) m' σ' H')/\∀x H',(WI K a).yld i H x H'->g x σ H' fun σ2 H2=>tb { D with nx:=N,ct:=N,bk:=D.nx } σ2 H2):=by
 refine⟨fun i m σ H=>m=xs.length-i/\i<=xs.length/\Pv i σ H,⟨xs.length,by simp,qb6 _,h0⟩,?_⟩;rintro i m σ H ⟨rfl,hi,p⟩;have q:=hl i σ H hi p;by_cases hlt:i<xs.length
 . refine .inr ⟨⟨xs,xs[i],q,by simp[hlt]⟩,Pv (i+1),fun σ' H' p'=>⟨xs.length-(i+1),by omega,rfl,hlt,p'⟩,fun x H' y=>?_⟩;obtain⟨e,y⟩:=y;subst e;exact hs i x σ _ (y xs q) p
 . have e:i=xs.length:=by omega
   subst e;exact .inl ⟨⟨xs,q,qa8 _⟩,hd σ H p⟩
def gX{K:W.Frag}{a:Addr}{xs:List V}{g:TG}{tb:TS}{D:Ends}{σ:St}{H:Hp}(Pv:Nat->St->Hp->Prop)(h0:Pv 0 σ H)(hl:∀i σ H,i<=xs.length->Pv i σ H->Fw K H a xs)
 (hs:∀i x σ H,xs[i]?=some x->Pv i σ H->g x σ H fun σ2 H2=>tb { D with nx:=Pv (i+1),ct:=Pv (i+1),bk:=D.nx } σ2 H2) (hd:∀σ H,Pv xs.length σ H->D.nx σ H) :
 ∃W:Nat->Nat->St->Hp->Prop,(∃m,W 0 m σ H)/\∀i m σ H,W i m σ H →
   ((wI K a).stop i H/\D.nx σ H)\/((wI K a).go i H/\∃N:St->Hp->Prop,(∀σ' H',N σ' H'->∃m',m'<m/\W (i+1) m' σ' H')/\∀x H',(wI K a).yld i H x H'->g x σ H' fun σ2 H2=>tb { D with nx:=N,ct:=N,bk:=D.nx } σ2 H2):=by
 refine⟨fun i m σ H=>m=xs.length-i/\i<=xs.length/\Pv i σ H,⟨xs.length,by simp,qb6 _,h0⟩,?_⟩;rintro i m σ H ⟨rfl,hi,p⟩;have q:=hl i σ H hi p;by_cases hlt:i<xs.length
 . refine .inr ⟨⟨xs,xs[i],q,by simp[hlt]⟩,Pv (i+1),fun σ' H' p'=>⟨xs.length-(i+1),by omega,rfl,hlt,p'⟩,fun x H' y=>?_⟩;obtain⟨e,y⟩:=y;subst e;exact hs i x σ _ (y xs q) p
 . have e:i=xs.length:=by omega
   subst e;exact .inl ⟨⟨xs,q,qa8 _⟩,hd σ H p⟩
def C3{lo:Int}{n:Nat}{g:TG}{tb:TS}{D:Ends}{σ:St}{H:Hp}(Pv:Nat->St->Hp->Prop)(h0:Pv 0 σ H)
 (hs:∀i σ H,i<n->Pv i σ H->g (.int (lo+i)) σ H fun σ2 H2=>tb { D with nx:=Pv (i+1),ct:=Pv (i+1),bk:=D.nx } σ2 H2) (hd:∀σ H,Pv n σ H->D.nx σ H) :
 ∃W:Nat->Nat->St->Hp->Prop,(∃m,W 0 m σ H)/\∀i m σ H,W i m σ H →
   ((tE lo n).stop i H/\D.nx σ H)\/((tE lo n).go i H/\∃N:St->Hp->Prop,(∀σ' H',N σ' H'->∃m',m'<m/\W (i+1) m' σ' H')/\∀x H',(tE lo n).yld i H x H'->g x σ H' fun σ2 H2=>tb { D with nx:=N,ct:=N,bk:=D.nx } σ2 H2):=by
 refine⟨fun i m σ H=>m=n-i/\i<=n/\Pv i σ H,⟨n,by simp,qb6 _,h0⟩,?_⟩;rintro i m σ H ⟨rfl,hi,p⟩;by_cases hlt:i<n
 . refine .inr ⟨hlt,Pv (i+1),fun σ' H' p'=>⟨n-(i+1),by omega,rfl,hlt,p'⟩,fun x H' y=>?_⟩;obtain⟨e,y⟩:=y;subst e y;exact hs i σ _ hlt p
 . have e:i=n:=by omega
   subst e;exact .inl ⟨qa8 _,hd σ H p⟩
abbrev R2:=V->V->Hp->VK->Prop
def OpR(X:Cx)(f:Value->Value->Sem Value)(r:R2):Prop :=
 ∀(Ac:LAObj) (s:Shared) (σ:St) (H:Hp) (x y:V) (v u:Value) (Q:VK),Inv X Ac σ H s->RelV x v->RelV y u->r x y H Q →
   wpAny (model X.prog X.w) X.A (f v u) (EP X Ac σ Q) X.xe s
def UnR(X:Cx)(f:Value->Sem Value)(r:V->Hp->VK->Prop):Prop :=
 ∀(Ac:LAObj) (s:Shared) (σ:St) (H:Hp) (x:V) (v:Value) (Q:VK),Inv X Ac σ H s->RelV x v->r x H Q →
   wpAny (model X.prog X.w) X.A (f v) (EP X Ac σ Q) X.xe s
def CallR(X:Cx)(f:Value)(r:List V->Hp->VK->Prop):Prop :=
 ∀(Ac:LAObj) (s:Shared) (σ:St) (H:Hp) (xs:List V) (us:List Value) (Q:VK),Inv X Ac σ H s->Vals xs us->r xs H Q →
   wpAny (model X.prog X.w) X.A (call f us) (EP X Ac σ Q) X.xe s
def WX(r:R2)(ta tb:TE):TE:=fun σ H Q=>ta σ H fun x H1=>tb σ H1 fun y H2=>r x y H2 Q
def tUn(r:V->Hp->VK->Prop)(ta:TE):TE:=fun σ H Q=>ta σ H fun x H1=>r x H1 Q
def rI(C:Int->Int->Prop)(g:Int->Int->V):R2:=fun x y H Q=>∃i j,x=.int i/\y=.int j/\C i j/\Q (g i j) H
def RZ(g:Int->Int->V):R2:=fun x y H Q=>∃i j,x=.int i/\y=.int j/\Q (g i j) H
def rU(g:Int->V):V->Hp->VK->Prop:=fun x H Q=>∃i,x=.int i/\Q (g i) H
section
variable{X:Cx}{a b c:Expr}{ta tb tc:TE}{pos:Pos}
def WB(ha:PE X a ta)(hb:PE X b tb){Ac:LAObj}{s:Shared}{σ:St}{H:Hp}{R:V->V->Hp->Prop}(I:Inv X Ac σ H s)
 (h:ta σ H fun x H1=>tb σ H1 fun y H2=>R x y H2) {Q:Value->Shared->Prop}{f:Value->Value->Sem Value}
 (hf:∀v u s2 x y H2,Inv X Ac σ H2 s2->RelV x v->RelV y u->R x y H2->wpAny (model X.prog X.w) X.A (f v u) Q X.xe s2) :
 wpAny (model X.prog X.w) X.A (eval a X.env) (fun v s₁=>wpAny (model X.prog X.w) X.A (eval b X.env) (fun u s₂=>wpAny (model X.prog X.w) X.A (f v u) Q X.xe s₂) X.xe s₁) X.xe s:=by
 refine Cz (ha Ac s σ H _ I h) fun v s1 _z=>?_;obtain⟨x,H1,I1,r1,q1⟩:=_z;refine Cz (hb Ac s1 σ H1 _ I1 q1) fun u s2 _z=>?_;obtain⟨y,H2,I2,r2,q2⟩:=_z;exact hf v u s2 x y H2 I2 r1 r2 q2
def Bg{op:Operator}{r:R2}(ho:OpR X (binaryOp op) r)(ha:PE X a ta)(hb:PE X b tb):PE X (.BinOp a op b pos) (WX r ta tb):=by
 intro Ac s σ H Q I h;exact wpAny_BinOp (WB ha hb I h fun v u s2 x y H2 I2 rx ry q=>ho Ac s2 σ H2 x y v u Q I2 rx ry q)
def X9{op:UnaryOp}{r:V->Hp->VK->Prop}(ho:UnR X (unaryOp op) r)(ha:PE X a ta):PE X (.UnaryOp op a pos) (tUn r ta):=by
 intro Ac s σ H Q I h;exact UnaryOp_ (Cz (ha Ac s σ H _ I h) fun v s1 ⟨x,H1,I1,r1,q1⟩=>ho Ac s1 σ H1 x v Q I1 r1 q1)
def opI{f:Value->Value->Sem Value}{C:Int->Int->Prop}{g:Int->Int->Int}
 (rule:∀(i j:Int) (t u:Tok) (s:Shared) (Q:Value->Shared->Prop) (E:Value->Shared->Prop),C i j->Q (.int (g i j) s.toks) { s with toks:=s.toks+1 }->wpAny (model X.prog X.w) X.A (f (.int i t) (.int j u)) Q E s) :
 OpR X f (rI C fun i j=>.int (g i j)):=by
 intro Ac s σ H x y v u Q I rx ry h;obtain⟨i,j,rfl,rfl,hc,q⟩:=h;obtain⟨t,rfl⟩:=rx;obtain⟨t',rfl⟩:=ry;exact rule i j t t' s _ _ hc ⟨.int (g i j),H,I.tok _,⟨_,rfl⟩,q⟩
def xN{f:Value->Value->Sem Value}{g:Int->Int->Int}
 (rule:∀(i j:Int) (t u:Tok) (s:Shared) (Q:Value->Shared->Prop) (E:Value->Shared->Prop),Q (.int (g i j) s.toks) { s with toks:=s.toks+1 }->wpAny (model X.prog X.w) X.A (f (.int i t) (.int j u)) Q E s) :
 OpR X f (RZ fun i j=>.int (g i j)):=by
 intro Ac s σ H x y v u Q I rx ry h;obtain⟨i,j,rfl,rfl,q⟩:=h;obtain⟨t,rfl⟩:=rx;obtain⟨t',rfl⟩:=ry;exact rule i j t t' s _ _ ⟨.int (g i j),H,I.tok _,⟨_,rfl⟩,q⟩
def QK{f:Value->Value->Sem Value}{g:Int->Int->Bool}
 (rule:∀(i j:Int) (t u:Tok) (s:Shared) (Q:Value->Shared->Prop) (E:Value->Shared->Prop),Q (.bool (g i j)) s->wpAny (model X.prog X.w) X.A (f (.int i t) (.int j u)) Q E s) :
 OpR X f (RZ fun i j=>.bl (g i j)):=by
 intro Ac s σ H x y v u Q I rx ry h;obtain⟨i,j,rfl,rfl,q⟩:=h;obtain⟨t,rfl⟩:=rx;obtain⟨t',rfl⟩:=ry;exact rule i j t t' s _ _ ⟨.bl (g i j),H,I,rfl,q⟩
def Am0(i j:Int):Prop:=0<j/\j<1073741824
def Al9(i j:Int):Prop:=0<=j/\j<=1000000/\i.natAbs<2 ^ 64
def rV(i j:Int):Prop:=(-(2 ^ 64)<i/\i<2 ^ 64)\/(-(2 ^ 64)<j/\j<2 ^ 64)
def rV.ok{i j:Int}(h:rV i j):IntMulOk i j:=by
 rcases h with⟨h1,h2⟩|⟨h1,h2⟩
 . exact .of_left (intBits_le_64 h1 h2)
 . exact .of_right (intBits_le_64 h1 h2)
def Dq:OpR X (binaryOp .Add) (RZ fun i j=>.int (i+j)):=xN fun _ _ _ _ _ _ _ q=>add_int q
def Mq:OpR X (binaryOp .Sub) (RZ fun i j=>.int (i-j)):=xN fun _ _ _ _ _ _ _ q=>sub_int q
def Ex:OpR X (binaryOp .FloorDiv) (rI Am0 fun i j=>.int (i / j)):=opI fun i j _ _ _ _ _ hc q=>by
 have h1:(0:Int)<j:=hc.1;have h2:j<1073741824:=hc.2;exact floordiv_int (by omega) (by rw[Int.fdiv_eq_ediv_of_nonneg i (by omega)];exact q) (.inl (PyProof.noPylong_small (by omega)))
def B5:OpR X (binaryOp .Mod) (rI (fun _ j=>0<j) fun i j=>.int (i%j)):=opI fun i j _ _ _ _ _ hc q=>by
 have h1:(0:Int)<j:=hc;exact mod_int' (by omega) (by rw[Int.fmod_eq_emod_of_nonneg i (by omega)];exact q)
def MK:OpR X (binaryOp .Pow) (rI Al9 fun i j=>.int (i ^ j.toNat)):=opI fun _ _ _ _ _ _ _ hc q=>pow_int_small hc.1 hc.2.1 hc.2.2 q
def unI{f:Value->Sem Value}{g:Int->Int}
 (rule:∀(i:Int) (t:Tok) (s:Shared) (Q:Value->Shared->Prop) (E:Value->Shared->Prop),Q (.int (g i) s.toks) { s with toks:=s.toks+1 }->wpAny (model X.prog X.w) X.A (f (.int i t)) Q E s) :
 UnR X f (rU fun i=>.int (g i)):=by
 intro Ac s σ H x v Q I rx h;obtain⟨i,rfl,q⟩:=h;obtain⟨t,rfl⟩:=rx;exact rule i t s _ _ ⟨.int (g i),H,I.tok _,⟨_,rfl⟩,q⟩
def Qw:UnR X (unaryOp .USub) (rU fun i=>.int (-i)):=unI fun _ _ _ _ _ q=>neg_int q
end
noncomputable def scal:V->V->Bool
 | .non,.non=>true | .non,.int _=>true | .int _,.non=>true | .non,.bl _=>true | .bl _,.non=>true | .non,.str _=>true | .str _,.non=>true
 | .int _,.int _=>true | .bl _,.bl _=>true | .str _,.str _=>true | .byt _,.byt _=>true
 | .int _,.str _=>true | .str _,.int _=>true | .bl _,.str _=>true | .str _,.bl _=>true
 | _,_=>false
def rEq:R2:=fun x y H Q=>scal x y=true/\Q (.bl (decide (x=y))) H
def rNe:R2:=fun x y H Q=>scal x y=true/\Q (.bl (!decide (x=y))) H
def GY{i j:Int}:decide (V.int i=V.int j)=(i==j):=by
 rw[qh4];simp
def oH{i j:Bool}:decide (V.bl i=V.bl j)=(i==j):=by
 rw[qh4];simp
def gY{i j:Str}:decide (V.str i=V.str j)=(i==j):=by
 rw[qh4];simp
def gZ{i j:Array UInt8}:decide (V.byt i=V.byt j)=(i.toList==j.toList):=by
 rw[qh4];cases i;cases j;simp
section
variable{X:Cx}{a b c:Expr}{ta tb tc:TE}{pos:Pos}
def B6{Ac:LAObj}{σ:St}{H:Hp}{s:Shared}{Q:VK}{k k':Bool}(I:Inv X Ac σ H s)(q:Q (.bl k) H)(e:k=k'):EP X Ac σ Q (.bool k') s:=by
 subst e;exact⟨.bl k,H,I,rfl,q⟩
theorem C0:OpR X (compareOp .Eq) rEq:=by
 intro Ac s σ H x y v u Q I rx ry h;obtain⟨hs,q⟩:=h;cases x with
 | non =>
   cases rx;cases y with
   | non=>cases ry;exact PySem.EqNone.eq_none_none (B6 I q (by simp))
   | bl j=>cases ry;exact PySem.EqNone.eq_none_bool (B6 I q (by simp))
   | int j=>obtain⟨t',rfl⟩:=ry;exact PySem.EqNone.eq_none_int (B6 I q (by simp))
   | str j=>obtain⟨t',rfl⟩:=ry;exact PySem.EqNone.eq_none_str (B6 I q (by simp))
   | _=>exact absurd (show false=true from hs) qc2
 | bl i =>
   cases rx;cases y with
   | non=>cases ry;exact PySem.EqNone.eq_bool_none (B6 I q (by simp))
   | bl j=>cases ry;exact eq_bool (B6 I q oH)
   | str j=>obtain⟨t',rfl⟩:=ry;exact PySem.EqMixed.eq_bool_str (B6 I q (by simp))
   | _=>exact absurd (show false=true from hs) qc2
 | int i =>
   obtain⟨t,rfl⟩:=rx;cases y with
   | non=>cases ry;exact PySem.EqNone.eq_int_none (B6 I q (by simp))
   | int j=>obtain⟨t',rfl⟩:=ry;exact eq_int (B6 I q GY)
   | str j=>obtain⟨t',rfl⟩:=ry;exact PySem.EqMixed.eq_int_str (B6 I q (by simp))
   | _=>exact absurd (show false=true from hs) qc2
 | str i =>
   obtain⟨t,rfl⟩:=rx;cases y with
   | non=>cases ry;exact PySem.EqNone.eq_str_none (B6 I q (by simp))
   | bl j=>cases ry;exact PySem.EqMixed.eq_str_bool (B6 I q (by simp))
   | int j=>obtain⟨t',rfl⟩:=ry;exact PySem.EqMixed.eq_str_int (B6 I q (by simp))
   | str j=>obtain⟨t',rfl⟩:=ry;exact eq_str (B6 I q gY)
   | _=>exact absurd (show false=true from hs) qc2
 | byt i =>
   obtain⟨t,rfl⟩:=rx;cases y with
   | byt j=>obtain⟨t',rfl⟩:=ry;exact PySem.W.eq_bytes (B6 I q gZ)
   | _=>exact absurd (show false=true from hs) qc2
 | _=>cases y<;>exact absurd (show false=true from hs) qc2
theorem Yd:OpR X (compareOp .NotEq) rNe:=by
 intro Ac s σ H x y v u Q I rx ry h;obtain⟨hs,q⟩:=h;cases x with
 | non =>
   cases rx;cases y with
   | non=>cases ry;exact PySem.EqNone.ne_none_none (B6 I q (by simp))
   | bl j=>cases ry;exact PySem.EqNone.ne_none_bool (B6 I q (by simp))
   | int j=>obtain⟨t',rfl⟩:=ry;exact PySem.EqNone.ne_none_int (B6 I q (by simp))
   | str j=>obtain⟨t',rfl⟩:=ry;exact PySem.EqNone.ne_none_str (B6 I q (by simp))
   | _=>exact absurd (show false=true from hs) qc2
 | bl i =>
   cases rx;cases y with
   | non=>cases ry;exact PySem.EqNone.ne_bool_none (B6 I q (by simp))
   | bl j=>cases ry;exact ne_bool (B6 I q (congrArg not oH))
   | str j=>obtain⟨t',rfl⟩:=ry;exact PySem.EqMixed.ne_bool_str (B6 I q (by simp))
   | _=>exact absurd (show false=true from hs) qc2
 | int i =>
   obtain⟨t,rfl⟩:=rx;cases y with
   | non=>cases ry;exact PySem.EqNone.ne_int_none (B6 I q (by simp))
   | int j=>obtain⟨t',rfl⟩:=ry;exact ne_int (B6 I q (congrArg not GY))
   | str j=>obtain⟨t',rfl⟩:=ry;exact PySem.EqMixed.ne_int_str (B6 I q (by simp))
   | _=>exact absurd (show false=true from hs) qc2
 | str i =>
   obtain⟨t,rfl⟩:=rx;cases y with
   | non=>cases ry;exact PySem.EqNone.ne_str_none (B6 I q (by simp))
   | bl j=>cases ry;exact PySem.EqMixed.ne_str_bool (B6 I q (by simp))
   | int j=>obtain⟨t',rfl⟩:=ry;exact PySem.EqMixed.ne_str_int (B6 I q (by simp))
   | str j=>obtain⟨t',rfl⟩:=ry;exact ne_str (B6 I q (congrArg not gY))
   | _=>exact absurd (show false=true from hs) qc2
 | byt i =>
   obtain⟨t,rfl⟩:=rx;cases y with
   | byt j=>obtain⟨t',rfl⟩:=ry;exact PySem.W.ne_bytes (B6 I q (congrArg not gZ))
   | _=>exact absurd (show false=true from hs) qc2
 | _=>cases y<;>exact absurd (show false=true from hs) qc2
def P6:OpR X (compareOp .Lt) (RZ fun i j=>.bl (decide (i<j))):=QK fun _ _ _ _ _ _ _ q=>lt_int q
def sF:OpR X (compareOp .LtE) (RZ fun i j=>.bl (decide (i<=j))):=QK fun _ _ _ _ _ _ _ q=>le_int q
def Um:OpR X (compareOp .Gt) (RZ fun i j=>.bl (decide (j<i))):=QK fun _ _ _ _ _ _ _ q=>gt_int q
def SG:OpR X (compareOp .GtE) (RZ fun i j=>.bl (decide (j<=i))):=QK fun _ _ _ _ _ _ _ q=>ge_int q
def Bh(b:Expr){op:CmpOp}(h:op≠.In:=by decide)(h2:op≠.NotIn:=by decide):behindInMarks op b=false:=by
 have e1:(op==CmpOp.In)=false:=by cases op<;>first | rfl | exact absurd rfl h
 have e2:(op==CmpOp.NotIn)=false:=by cases op<;>first | rfl | exact absurd rfl h2
 cases b<;>simp[behindInMarks,e1,e2]
def Fn{op:CmpOp}{r:R2}(ho:OpR X (compareOp op) r)(ha:PE X a ta)(hb:PE X b tb)(hm:behindInMarks op b=false):PE X (.Compare a [op] [b] pos) (WX r ta tb):=by
 intro Ac s σ H Q I h;exact wpAny_Compare1 (WB ha hb I h fun v u s2 x y H2 I2 rx ry q=>ho Ac s2 σ H2 x y v u Q I2 rx ry q) hm
def WW(t:TE):TT:=fun σ H Q=>t σ H fun x H'=>∃k,x=.bl k/\Q k H'
def Bb{op:CmpOp}{r:R2}(ho:OpR X (compareOp op) r)(ha:PE X a ta)(hb:PE X b tb)(hm:behindInMarks op b=false):PT X (.Compare a [op] [b] pos) (WW (WX r ta tb)):=by
 intro Ac s σ H Q I h
 refine wpAny_isTrue_Compare1 (Cz (ha Ac s σ H _ I h) fun v s1 ⟨x,H1,I1,r1,q1⟩=>Cz (hb Ac s1 σ H1 _ I1 q1) fun u s2 ⟨y,H2,I2,r2,q2⟩ =>
  Cz (ho Ac s2 σ H2 x y v u _ I2 r1 r2 q2) fun c s3 ⟨z,H3,I3,r3,k,e,q3⟩=>?_) hm
 subst e;cases r3;exact qg8 ⟨H3,I3,q3⟩
def tU(r r':R2)(ta tb tc:TE):TE:=fun σ H Q=>ta σ H fun x H1=>tb σ H1 fun y H2=>r x y H2 fun z H3=>∃k,z=.bl k ∧
 (if k=true then tc σ H3 fun w' H4=>r' y w' H4 Q else Q (.bl false) H3)
theorem mJ{op op':CmpOp}{r r':R2}(ho:OpR X (compareOp op) r)(ho':OpR X (compareOp op') r')(ha:PE X a ta)(hb:PE X b tb)(hc:PE X c tc)
 (hm:lastMarks [op,op'] [b,c]=false:=by with_unfolding_all rfl):PE X (.Compare a [op,op'] [b,c] pos) (tU r r' ta tb tc):=by
 intro Ac s σ H Q I h
 refine Compare_chain (Cz (ha Ac s σ H _ I h) fun v s1 ⟨x,H1,I1,r1,q1⟩=>chain_link (Cz (hb Ac s1 σ H1 _ I1 q1) fun u s2 ⟨y,H2,I2,r2,q2⟩ =>
  Cz (ho Ac s2 σ H2 x y v u _ I2 r1 r2 q2) fun d s3 ⟨z,H3,I3,r3,k,e,q3⟩=>?_)) hm
 subst e;cases r3;refine qg8 ?_;cases k with
 | false=>exact ite_ff ⟨.bl false,H3,I3,rfl,q3⟩
 | true=>exact ite_tt (chain_last (Cz (hc Ac s3 σ H3 _ I3 q3) fun w' s4 ⟨z',H4,I4,r4,q4⟩=>ho' Ac s4 σ H4 y z' u w' Q I4 r2 r4 q4))
def eZ:(sizeLine:Nat)<2 ^ 63:=by rw[sizeLine_eq];decide
theorem L5{x:V}{us:List Value}(r:Vals [x] us):∃u,us=[u]/\RelV x u:=by
 cases r with
 | cons r1 r2=>cases r2;exact⟨_,rfl,r1⟩
theorem Op{x y:V}{us:List Value}(r:Vals [x,y] us):∃u w',us=[u,w']/\RelV x u/\RelV y w':=by
 cases r with
 | cons r1 r2 =>
   cases r2 with
   | cons r3 r4=>cases r4;exact⟨_,_,rfl,r1,r3⟩
def Y9(hc:X.calm=true):CallR X (.builtin "max") (fun xs H Q=>∃i j,xs=[.int i,.int j]/\Q (.int (if j > i then j else i)) H):=by
 intro Ac s σ H xs us Q I r h;obtain⟨i,j,rfl,q⟩:=h;obtain⟨u,w',rfl,⟨t,rfl⟩,⟨t',rfl⟩⟩:=Op r;refine max_two_ints (I.ok.hd hc) fun h' tk k=>⟨_,H,I.kept k,?_,q⟩
 by_cases hj:j > i
 . rw[if_pos hj,if_pos hj];exact⟨_,rfl⟩
 . rw[if_neg hj,if_neg hj];exact⟨_,rfl⟩
end
section
variable{prog:Program}{w:World}{A:Around}{E:Value->Shared->Prop}{s:Shared}{K:W.Frag}{x dx C f:Addr}{mA:Str->Option Value}{name:Str}{v:Value}
end
theorem RelO.some_of{v:V}{o:Option Value}(r:RelO (some v) o):∃u,o=some u/\RelV v u:=by
 cases o with
 | none=>exact(show False from r).elim
 | some u=>exact⟨u,rfl,r⟩
theorem RelO.none_of{o:Option Value}(r:RelO none o):o=none:=by
 cases o with
 | none=>rfl
 | some u=>exact(show False from r).elim
theorem Yr{v:V}{u:Value}(r:RelV v u):PySem.W.handedIn u=true:=by
 cases v with
 | non=>cases (show u=Value.none from r);rfl
 | bl b=>cases (show u=Value.bool b from r);rfl
 | int i=>obtain⟨t,e⟩:=(show ∃t,u=Value.int i t from r);cases e;rfl
 | str x=>obtain⟨t,e⟩:=(show ∃t,u=Value.str x t from r);cases e;rfl
 | byt b=>obtain⟨t,e⟩:=(show ∃t,u=Value.bytes b t from r);cases e;rfl
 | flt b=>obtain⟨t,e⟩:=(show ∃t,u=Value.float b t from r);cases e;rfl
 | ref a=>cases (show u=Value.ref a from r);rfl
 | ty n=>cases (show u=Value.type n from r);rfl
section
variable{P:Program}{w:World}{H H':Hp}{h h':Heap}{a C dx:Addr}{fs fs':List (Str × V)}
end
section
variable{X:Cx}{Ac:LAObj}{σ:St}{H:Hp}{s:Shared}{a C dx:Addr}{fs:List (Str × V)}{f:Str}{v:V}{A:Around}{E:Value->Shared->Prop}
def HJ{prog:Program}{w:World}{env:Env}{e:Expr}{f:Str}{pos:Pos}{s:Shared}{Q:Value->Shared->Prop}(hb:attributeBase e f env (eval e env)=eval e env)
 (h:wpAny (model prog w) A (eval e env) (fun o s₁=>wpAny (model prog w) A (getAttr o f true) Q E s₁) E s):wpAny (model prog w) A (eval (.Attribute e f pos) env) Q E s :=
 Attribute_any_ h (by rw[arm_eval_Attribute,hb])
end
section
variable{X:Cx}{o e value:Expr}{f:Str}{pos pos' tpos:Pos}{ta tv:TE}
end
section
variable{X:Cx}{Ac:LAObj}{σ:St}{H:Hp}{s:Shared}{A:Around}{E:Value->Shared->Prop}{Q:Value->Shared->Prop}{c:Value}{b:Bool}
end
structure E5(k:Nat)(A:Around):Prop where
 hd:A.handled=none
 dp:A.depth+3*k+5<recursionLimit
 un:A.units+16*k+200<cLine
 gd:A.guards=some []
def E5.mono{j k:Nat}{A:Around}(r:E5 k A)(h:j<=k):E5 j A:=⟨r.hd,by have:=r.dp;omega,by have:=r.un;omega,r.gd⟩
theorem E5.deeper{k:Nat}{A:Around}(r:E5 (k+1) A)(env:Env):E5 k (A.deeper env) :=
 ⟨r.hd,by have:=r.dp;show A.depth+1+3*k+5<_;omega,by have:=r.un;show A.units+3+16*k+200<_;omega,r.gd⟩
def EW{A:Around}{C:Addr}{us:List Value}{kw:List (Str × Value)}:(A.under (.builtin "type.__call__" ⟨.ref C::us,kw⟩)).depth=A.depth+1:=by
 first | rfl | simp[Around.under,Code.weight,Code.isCreation,Code.isGuard,Code.isCaller,Code.frames,Code.isFrame,guardIds]
def bQ{A:Around}{C:Addr}{us:List Value}{kw:List (Str × Value)}:(A.under (.builtin "type.__call__" ⟨.ref C::us,kw⟩)).guards=A.guards:=by
 first | rfl | simp[Around.under,Code.weight,Code.isCreation,Code.isGuard,Code.isCaller,Code.frames,Code.isFrame,guardIds]
def eW{A:Around}{C:Addr}{us:List Value}{kw:List (Str × Value)}:(A.under (.builtin "type.__call__" ⟨.ref C::us,kw⟩)).units=A.units+1:=by
 first | rfl | simp[Around.under,Code.cUnits,Code.frames,Code.isFrame]
def E5.make{k:Nat}{A:Around}(r:E5 (k+1) A)(C:Addr)(us:List Value)(kw:List (Str × Value)):E5 k (A.under (.builtin "type.__call__" ⟨.ref C::us,kw⟩)) :=
 ⟨r.hd,by have:=r.dp;rw[EW];omega,by have:=r.un;rw[eW];omega,by rw[bQ];exact r.gd⟩
theorem E5.depth{k:Nat}{A:Around}(r:E5 k A):A.depth<recursionLimit:=by have:=r.dp;omega
theorem E5.units{k:Nat}{A:Around}(r:E5 k A):A.units+64<cLine:=by have:=r.un;omega
def E5.u8{k:Nat}{A:Around}(h:E5 k A):A.units+8<cLine:=by
 have:=h.units;omega
def Aa1:TA:=fun _ H Q=>Q [] H
def xB(ta:TE)(tr:TA):TA:=fun σ H Q=>ta σ H fun x H1=>tr σ H1 fun xs H2=>Q (x::xs) H2
section
variable{X:Cx}{e:Expr}{es:List Expr}{te:TE}{t:TA}{pos:Pos}
def Ad:PA X [] Aa1:=fun _ _ _ _ H Q I h=>qq4 ⟨[],H,I,.nil,h⟩
def Aa(ha:PE X e te)(hr:PA X es t)(hs:starEach (e::es) X.env=(false,eval e X.env)::starEach es X.env:=by rfl):PA X (e::es) (xB te t):=by
 intro pos Ac s σ H Q I h;rw[hs];show wpAny _ _ (spliced ((false,eval e X.env)::backTo pos (starEach es X.env))) _ _ s;refine qk3 (Cz (ha Ac s σ H _ I h) fun u s1 _z=>?_);obtain⟨x,H1,I1,r1,q1⟩:=_z;exact Cz (hr pos Ac s1 σ H1 _ I1 q1) fun us s2 ⟨xs,H2,I2,r2,q2⟩=>⟨x::xs,H2,I2,.cons r1 r2,q2⟩
def wW(t:TA):TE:=fun σ H Q=>t σ H fun xs H1=>xs.length<=sizeLine/\∀p,H1 p=none->Q (.ref p) (upd H1 p (.tup xs))
def Aa2(t:TA):TE:=fun σ H Q=>t σ H fun xs H1=>xs.length<=sizeLine/\∀p,H1 p=none->Q (.ref p) (upd H1 p (.lst xs))
def Ch{x1}(h:PA X es t):PE X (.Tuple es x1 pos) (wW t):=by
 intro Ac s σ H Q I hq;refine wpAny_Tuple_spliced (Cz (h pos Ac s σ H _ I hq) fun us s1 ⟨xs,H1,I1,r,z,q⟩=>⟨by rw[←r.length];exact z,?_⟩);have hf:H1 s1.heap.objs.size=none:=I1.hok.fresh (qa8 _);refine⟨.ref s1.heap.objs.size,upd H1 s1.heap.objs.size (.tup xs),I1.laid (t':=s1.toks) (fun b u e=>qa4 _ e) (qa8 _) ?_,rfl,q _ hf⟩;exact⟨z,us,r,⟨_,qb3 _ rfl,rfl,rfl,_,rfl⟩⟩
def Ck(h:PA X es t):PE X (.List es pos) (Aa2 t):=by
 intro Ac s σ H Q I hq;refine wpAny_List_spliced (Cz (h pos Ac s σ H _ I hq) fun us s1 ⟨xs,H1,I1,r,z,q⟩=>⟨by rw[←r.length];exact z,?_⟩);have hf:H1 s1.heap.objs.size=none:=I1.hok.fresh (qa8 _);refine⟨.ref s1.heap.objs.size,upd H1 s1.heap.objs.size (.lst xs),I1.laid (t':=s1.toks) (fun b u e=>qa4 _ e) (qa8 _) ?_,rfl,q _ hf⟩;exact⟨z,us,0,r,qb3 _ rfl⟩
end
abbrev Sp:=List V->Hp->VK->XK->Prop
abbrev LF:=List Env->Hp->Shared->XK->Value->Shared->Prop
structure Xu(P:Program)(w:World)(K:W.Frag)(mg:Str->Option Value)(base:Heap)(A:Around)(outer:List Env)(s:Shared)(H:Hp):Prop where
 frames:A.frames=some outer
 mod:Mod K mg base
 bs:∀b o,base.get? b=some o->s.heap.get? b=some o/\H b=none
 bsz:base.objs.size<=s.heap.objs.size
 funs:s.heap.FunFrames base outer
 frf:∀b∈frs outer,H b=none
 hok:Md P w H s.heap
 bare:AllBare s.gens
def CE(outer:List Env)(P:Program)(w:World)(H:Hp)(s:Shared)(Q:VK)(u:Value)(s':Shared):Prop :=
 ∃v H',s'.os=s.os/\AllBare s'.gens/\Un (frs outer) [] H H' s.heap s'.heap/\Md P w H' s'.heap/\RelV v u/\Q v H'
def CR(CX:LF)(outer:List Env)(P:Program)(w:World)(H:Hp)(s:Shared)(Q:VK)(E:XK)(r:Result)(s':Shared):Prop :=
 match r with
 | .ok (.ret u)=>CE outer P w H s Q u s'
 | .ok _=>False
 | .error e=>CX outer H s E e s'
structure B4(P:Program)(w:World)(K:W.Frag)(mg:Str->Option Value)(base:Heap)(CX:LF)(k:Nat)(f:Addr)(fd:FuncData)(ps:List Str)(sp:Sp):Prop where
 len:∀vs H Q E,sp vs H Q E->vs.length=ps.length
 run:∀(A:Around) (outer:List Env) (s:Shared) (H:Hp) (args:Args) (us:List Value) (vs:List V) (Q:VK) (E:XK),E5 k A->Xu P w K mg base A outer s H->BindsTo s fd args (ps.zip us)->Vals vs us->sp vs H Q E →
  codeAny (model P w) A (.call (.ref f) args) (CR CX outer P w H s Q E) s
def Xu.make{P:Program}{w:World}{K:W.Frag}{mg:Str->Option Value}{base:Heap}{A:Around}{outer:List Env}{s:Shared}{H:Hp}(e:Xu P w K mg base A outer s H)(C:Addr)(us:List Value)(kw:List (Str × Value)) :
 Xu P w K mg base (A.under (.builtin "type.__call__" ⟨.ref C::us,kw⟩)) outer s H:=⟨by first | exact e.frames | (simpa[Around.under,Code.envs,Code.isFrame,pushEnvs]using e.frames),e.mod,e.bs,e.bsz,e.funs,e.frf,e.hok,e.bare⟩
section
variable{X:Cx}{Ac:LAObj}{σ:St}{H:Hp}{s s':Shared}
def Inv.env0(I:Inv X Ac σ H s):Xu X.prog X.w X.K X.mg X.base X.A X.stack s H :=
 ⟨I.ok.frames,I.ok.mod,I.bs,qe5 I.ok.bsz I.sz,I.stack,I.stkFree,I.hok,I.bare⟩
def Inv.after{Q:VK}{u:Value}(I:Inv X Ac σ H s)(h:CE X.stack X.prog X.w H s Q u s'):EP X Ac σ Q u s':=by
 obtain⟨v,H',os,bare,un,hok,r,q⟩:=h;obtain⟨hh,g,d,t,os'⟩:=s';obtain rfl:os'=s.os:=os;exact⟨v,H',I.call (h':=hh) (g':=g) (d':=d) (t':=t) (ch:=[]) un hok bare (fun b z=>absurd z (by simp)),r,q⟩
end
def tCall(sp:Sp)(dvs:List V)(E:XK)(t:TA):TE:=fun σ H Q=>t σ H fun vs H1=>sp (vs++dvs) H1 Q E
def Nt(K:W.Frag)(fd:FuncData)(ps:List Str)(ds:List Value):Prop :=
 ∀(s:Shared) (us:List Value),K.In s.heap->(us++ds).length=ps.length->BindsTo s fd ⟨us,[]⟩ (ps.zip (us++ds))
def Nt.all{K:W.Frag}{fd:FuncData}{ps:List Str}(h:∀us:List Value,us.length=ps.length->bindArgs fd ⟨us,[]⟩=pure (ps.zip us)):Nt K fd ps []:=fun s us _ hl=>by
 rw[qf8]at hl ⊢;exact .of_eq (h us hl)
def GF(CX:LF)(X:Cx)(E:XK):Prop:=∀(Ac:LAObj) (σ:St) (H:Hp) (s:Shared) (e:Value) (s':Shared),Inv X Ac σ H s->CX X.stack H s E e s'->X.xe e s'
section
variable{X:Cx}{CX:LF}{k:Nat}{f C:Addr}{fd:FuncData}{ps:List Str}{sp:Sp}{dvs:List V}{ds:List Value}{E:XK}{x m:Str}{p pos apos:Pos}{e o:Expr}{es:List Expr}{ta:TE}{t:TA}
theorem UB{Ac:LAObj}{σ:St}{H:Hp}{s:Shared}{Q:VK}{us:List Value}{vs:List V}(F:B4 X.prog X.w X.K X.mg X.base CX k f fd ps sp)(hr:E5 k X.A)(hb:Nt X.K fd ps ds)(hd:Vals dvs ds)(hx:GF CX X E)
 (I:Inv X Ac σ H s) (r:Vals vs us) (h:sp (vs++dvs) H Q E):wpAny (model X.prog X.w) X.A (call (.ref f) us) (EP X Ac σ Q) X.xe s:=by
 have r2:Vals (vs++dvs) (us++ds):=r.append hd;have hl:(us++ds).length=ps.length:=by rw[←r2.length];exact F.len _ _ _ _ h
 refine qq0 (codeAny_mono (F.run X.A X.stack s H ⟨us,[]⟩ (us++ds) (vs++dvs) Q E hr I.env0 (hb s us I.kIn hl) r2 h) fun r s' hq=>?_);cases r with
 | error e=>exact hx Ac σ H s e s' I hq
 | ok fl =>
   cases fl with
   | ret u=>exact I.after hq
   | next=>exact False.elim hq
   | brk=>exact False.elim hq
   | cont=>exact False.elim hq
def QH(F:B4 X.prog X.w X.K X.mg X.base CX k f fd ps sp)(hr:E5 k X.A)(hg:Gl X x)(hm:X.mg x=some (.ref f))(hk:W.keepIn X.K (.ref f)=true)(hb:Nt X.K fd ps ds)(hd:Vals dvs ds)(hx:GF CX X E)
 (ha:PA X (e::es) t) (hdb:(x==("__debug__":Str))=false:=by decide) (he:starEach (e::es) X.env=(false,eval e X.env)::starEach es X.env:=by rfl) (hpl:(backTo pos (starEach es X.env)).any (·.1)=false:=by rfl) :
 PE X (.Call (.Name x p) (e::es) [] pos) (tCall sp dvs E t):=by
 intro Ac s σ H Q I h;refine qi9 (Hr I hg hm ?_ hdb);refine qm0 (h₀:=X.base) I.ok.mod.kin hk (Cz (ha pos Ac s σ H _ I h) fun us s1 ⟨vs,H1,I1,r,q⟩=>⟨I1.kIn,?_⟩) he hpl;exact UB F hr hb hd hx I1 r q
end
section
variable{X:Cx}{CX:LF}{k:Nat}{f C:Addr}{fd:FuncData}{ps ks:List Str}{sp:Sp}{E:XK}{x m:Str}{p pos apos kpos:Pos}{e o:Expr}{es:List Expr}{kws:List Keyword}{te ta:TE}{t tk:TA}{nm:Option Str}
variable{g:List Value->List Value->List Value}{gV:List V->List V->List V}
end
structure FnScope(N P:List Str)(sc:Scope):Prop where
 kind:sc.kind=.function
 co:sc.isCoroutine=false
 gen:sc.isGenerator=false
 nd:N.Nodup
 pre:N.take P.length=P
 par:∀x∈P,sc.names.lookup x=some .local\/sc.names.lookup x=some .cell
 nofree:∀y∈sc.names,y.2≠.free
theorem Zd{kindOf:Str->Option NameKind}{x:Str}:∀{binds:List (Str × Value)}{m:Str->Option Value},(∀v,(x,v) ∉ binds)->bindL kindOf binds m x=m x
 | [],_,_=>rfl
 | (n,v)::r,m,h=>by
   unfold bindL;rw[Zd fun w hw=>h w (qb0 _ hw)];split
   . have:x≠n:=by rintro rfl;exact h v qb2
     simp[this]
   . rfl
def Bl{N P:List Str}{sc:Scope}(h1:sc.kind=.function:=by exact rfl)(h2:sc.isCoroutine=false:=by exact rfl)(h3:sc.isGenerator=false:=by exact rfl)(h4:N.Nodup:=by decide +kernel)(h5:N.take P.length=P:=by exact rfl)
 (h6:∀x∈P,sc.names.lookup x=some .local\/sc.names.lookup x=some .cell:=by decide +kernel) (h7:∀y∈sc.names,y.2≠.free:=by decide +kernel):FnScope N P sc:=⟨h1,h2,h3,h4,h5,h6,h7⟩
theorem Zf{kindOf:Str->Option NameKind}{x:Str}:∀{binds:List (Str × Value)}{m:Str->Option Value},(∀v,(x,v) ∉ binds)->bindC kindOf binds m x=m x
 | [],_,_=>rfl
 | (n,v)::r,m,h=>by
   unfold bindC;rw[Zf fun w hw=>h w (qb0 _ hw)];split
   . rfl
   . have:x≠n:=by rintro rfl;exact h v qb2
     simp[this]
theorem Ze{kindOf:Str->Option NameKind}{x:Str}{v:Value}:∀{P:List Str}{vs:List Value}{i:Nat}{m:Str->Option Value},P.Nodup->P[i]?=some x->vs[i]?=some v->kindOf x=some .local →
 bindL kindOf (P.zip vs) m x=some v
 | [],_,_,_,_,h,_,_=>by simp at h
 | _::_,[],_,_,_,_,h,_=>by simp at h
 | p::P,w::vs,0,m,nd,h1,h2,hk=>by
   simp at h1 h2;subst h1;subst h2;show bindL kindOf ((p,w)::P.zip vs) m p=_;unfold bindL;rw[Zd fun v hv=>(qf4.mp nd).1 (qq3 hv).1,if_pos hk];simp
 | p::P,w::vs,i+1,m,nd,h1,h2,hk=>by
   show bindL kindOf ((p,w)::P.zip vs) m x=_;unfold bindL;exact Ze (i:=i) (qf4.mp nd).2 (by simpa using h1) (by simpa using h2) hk
theorem Zg{kindOf:Str->Option NameKind}{x:Str}{v:Value}:∀{P:List Str}{vs:List Value}{i:Nat}{m:Str->Option Value},P.Nodup->P[i]?=some x->vs[i]?=some v->kindOf x≠some .local →
 bindC kindOf (P.zip vs) m x=some v
 | [],_,_,_,_,h,_,_=>by simp at h
 | _::_,[],_,_,_,_,h,_=>by simp at h
 | p::P,w::vs,0,m,nd,h1,h2,hk=>by
   simp at h1 h2;subst h1;subst h2;show bindC kindOf ((p,w)::P.zip vs) m p=_;unfold bindC;rw[Zf fun v hv=>(qf4.mp nd).1 (qq3 hv).1,if_neg hk];simp
 | p::P,w::vs,i+1,m,nd,h1,h2,hk=>by
   show bindC kindOf ((p,w)::P.zip vs) m x=_;unfold bindC;exact Zg (i:=i) (qf4.mp nd).2 (by simpa using h1) (by simpa using h2) hk
noncomputable def J9(N:List Str)(vs:List V):St:=vs.map some++List.replicate (N.length-vs.length) none
noncomputable def Vy(CX:LF)(P:Program)(w:World)(K:W.Frag)(mg:Str->Option Value)(base:Heap)(N:List Str)(qual:Str)(scope:Scope)(f:Addr)(cd:Value)(A:Around)(outer:List Env)(s:Shared)(H:Hp)(E:XK):Cx where
 prog:=P
 w:=w
 K:=K
 mg:=mg
 base:=base
 A:=A.deeper (envOfC qual scope s.heap.objs.size f cd)
 N:=N
 s₀:=s
 H₀:=H
 env:=envOfC qual scope s.heap.objs.size f cd
 outer:=outer
 stack:=envOfC qual scope s.heap.objs.size f cd::outer
 ex:=[]
 calm:=true
 fn:=fun _=>true
 pn:=[]
 xe:=fun e s'=>wpAny (model P w) (A.deeper (envOfC qual scope s.heap.objs.size f cd)) (leaving (envOfC qual scope s.heap.objs.size f cd) e) (fun _ s''=>CX outer H s E e s'') (fun e' s''=>CX outer H s E e' s'') s'
def cR{sc:Scope}{n:Nat}{x:Str}(h:sc.names.lookup x=some .cell):∃c,(cellsFrom n sc.names []).lookup x=some c:=by
 have q:=qp6 sc.names n [] (.inl h);exact Option.isSome_iff_exists.mp q
theorem Yn{CX:LF}{P:Program}{w:World}{K:W.Frag}{mg:Str->Option Value}{base:Heap}{N ps:List Str}{qual:Str}{scope:Scope}{f:Addr}{cd:Value}{A:Around}{outer:List Env}{s s1:Shared}{H:Hp}{E:XK}{us:List Value}{vs:List V}
 (S:FnScope N ps scope) (hd:A.handled=none) (e0:Xu P w K mg base A outer s H) (hl:vs.length=ps.length) (r:Vals vs us)
 (x:InCallC s s.heap.objs.size (bindL (envOfC qual scope s.heap.objs.size f cd).kindOf (ps.zip us) fun _=>none) (cellsFrom (s.heap.objs.size+1) scope.names []) (bindC (envOfC qual scope s.heap.objs.size f cd).kindOf (ps.zip us) fun _=>none) s1) :
 Inv (Vy CX P w K mg base N qual scope f cd A outer s H E) [] (J9 N vs) H s1:=by
 have hpl:ps.length<=N.length:=by have:=congrArg List.length S.pre;rw[qc4]at this;omega
 obtain⟨h1,tk,rfl,hk⟩:=x.done;have XR:∀b:Addr,b ∉ (Vy CX P w K mg base N qual scope f cd A outer s H E).ex:=fun b z=>absurd (show b∈([]:List Addr) from z) (by simp)
 refine⟨⟨e0.mod,S.kind,rfl,rfl,qa8 _,fun y z c h1 h2=>?_,fun y hy=>?_,fun y c _ h=>?_,fun _=>hd,Around.frames_deeper e0.frames,.inr ⟨rfl,rfl⟩,fun b z=>absurd z (XR b),e0.bs,e0.bsz,fun b _ _=>XR b,fun b z=>absurd z (XR b),e0.funs,e0.frf⟩,
  rfl,e0.bare,Un.kept hk,⟨_,x.toInCall.ns,fun i y v h1 h2 h3=>?_⟩,fun y c h=>⟨_,x.cell y c h⟩,e0.hok.fresh (qa8 _),fun y c h=>?_,fun p hp=>absurd (show p∈([]:LAObj) from hp) (by simp),e0.hok.kept hk,?_⟩
 . exact name_of_addr x.apart (ql4 h1) (ql4 h2)
 . have hy:scope.names.lookup y=some .cell\/scope.names.lookup y=some .free:=hy;rcases hy with hy | hy
   . exact cR hy
   . exact absurd rfl (S.nofree _ (ql4 hy))
 . exact qt3 (x.above y c (ql4 h))
 . have hi:i<vs.length:=by
    unfold J9 at h2;by_cases hi:i<vs.length
    . exact hi
    . rw[List.getElem?_append_right (by simpa using hi)]at h2;rw[List.getElem?_replicate]at h2;split at h2<;>cases h2
   have ha:vs[i]?=some v:=by
    unfold J9 at h2;rw[qk9 (by simpa using hi),qa7]at h2;cases e:vs[i]? with
    | none=>rw[e]at h2;cases h2
    | some a=>rw[e]at h2;cases h2;rfl
   obtain⟨u,hu,rv⟩:=r.get ha
   have hp:ps[i]?=some y:=by
    rw[←S.pre,List.getElem?_take_of_lt (by omega)];exact h1
   have ndP:ps.Nodup:=by rw[←S.pre];exact S.nd.sublist (List.take_sublist _ _)
   refine⟨u,rv,?_⟩;rcases S.par y (qb5 hp) with k | k
   . exact .inl ⟨k,Ze ndP hp hu k⟩
   . obtain⟨c,e⟩:=cR (n:=s.heap.objs.size+1) k;refine .inr ⟨.inl k,c,e,?_⟩;have q:=x.cell y c e;rw[Zg ndP hp hu (by show scope.names.lookup y≠_;rw[k];decide)]at q;exact q
 . exact e0.hok.fresh (qt3 (x.above y c (ql4 h)))
 . unfold J9;show _=N.length;rw[qd1,qa3,qm9];omega
theorem SS{CX:LF}{P:Program}{w:World}{K:W.Frag}{mg:Str->Option Value}{base:Heap}{k:Nat}{f:Addr}{name qual:Str}{params:Arguments}{body:List Stmt}{scope:Scope}{dV kV doc pm C7 ct oc:Value}{an od:OAddr}
 {osl:Bs}{N ps:List Str}{sp:Sp} (lk:K.lookup f=some ⟨oc,od,.func (W.fnOf name qual params body scope dV kV doc pm an C7 ct),osl⟩) (hcd:W.codeIn K C7 qual=true) (S:FnScope N ps scope)
 (len:∀vs H Q E,sp vs H Q E->vs.length=ps.length)
 (hbody:∀(A:Around) (outer:List Env) (s:Shared) (H:Hp) (vs:List V) (Q:VK) (E:XK),E5 k (A.deeper (envOfC qual scope s.heap.objs.size f C7))->sp vs H Q E →
   ∃t,dG (Vy CX P w K mg base N qual scope f C7 A outer s H E) body t/\t { nx:=fun _ H'=>Q .non H',rt:=Q } (J9 N vs) H) :
 B4 P w K mg base CX (k+1) f (W.fnOf name qual params body scope dV kV doc pm an C7 ct) ps sp:=by
 refine⟨len,fun A outer s H args us vs Q E hr e0 hb r fL=>?_⟩;have hl:=len _ _ _ _ fL;have KX:K.In s.heap:=e0.mod.kin.keeps fun b o e=>(e0.bs b o e).1;have lim:s.heap.NoLimit:=e0.mod.nolimit.keeps fun b o e=>(e0.bs b o e).1
 have hkind:∀y∈ps.zip us,scope.names.lookup y.1=some .local\/(scope.names.lookup y.1=some .cell/\((cellsFrom (s.heap.objs.size+1) scope.names []).lookup y.1).isSome=true):=fun⟨n,v⟩ hy=>by
  rcases S.par n (qq3 hy).1 with q | q
  . exact .inl q
  . exact .inr ⟨q,qp6 _ _ _ (.inl q)⟩
 refine codeAny_call_function hr.depth (KX _ _ lk) rfl S.co S.gen rfl (PySem.W.codeRec_of KX hcd) (hb _ _ _ _ ?_);refine wpAny_newFunctionEnv_cells S.kind hkind fun env he s1 x=>?_;subst he;refine⟨lim.keeps x.toInCall.keep,codeAny_func ?_⟩;obtain⟨t,ht,hq⟩:=hbody A outer s H vs Q E (hr.deeper _) fL;have I:Inv (Vy CX P w K mg base N qual scope f C7 A outer s H E) [] (J9 N vs) H s1:=Yn S hr.hd e0 hl r x;refine qe2 (ht [] s1 (J9 N vs) H _ I hq) (fun fl s' hs=>?_) fun e s' hs=>hs
 have fin:∀{σ':St}{H':Hp}{v:V}{u:Value},Inv (Vy CX P w K mg base N qual scope f C7 A outer s H E) [] σ' H' s'->RelV v u->Q v H'->CE outer P w H s Q u s' :=
  fun {σ' H' v u} J rv q=>⟨v,H',J.os,J.bare,J.base,J.hok,rv,q⟩
 cases fl with
 | ret u =>
   obtain⟨v,σ',H',J,rv,q⟩:=hs;exact fin J rv q
 | next =>
   obtain⟨σ',H',J,q⟩:=hs;exact fin (v:=V.non) (u:=Value.none) J rfl q
 | brk =>
   obtain⟨_,_,_,q⟩:=hs;exact False.elim q
 | cont =>
   obtain⟨_,_,_,q⟩:=hs;exact False.elim q
section
variable{X:Cx}{x:Str}{p pos:Pos}{e:Expr}{es:List Expr}{t:TA}{id T:String}{r:List V->Hp->VK->Prop}
def tCB(r:List V->Hp->VK->Prop)(t:TA):TE:=fun σ H Q=>t σ H fun vs H1=>r vs H1 Q
def As(hc:CallR X (.builtin id) r)(hm:X.mg x=none)(hv:bootBuiltins x=some (.builtin id))(ha:PA X (e::es) t)(hg:Gl X x:=by rfl)(hn:x≠"__name__":=by decide)(hdb:(x==("__debug__":Str))=false:=by decide)
 (he:starEach (e::es) X.env=(false,eval e X.env)::starEach es X.env:=by rfl) (hpl:(backTo pos (starEach es X.env)).any (·.1)=false:=by rfl):PE X (.Call (.Name x p) (e::es) [] pos) (tCB r t):=by
 intro Ac s σ H Q I h;refine qi9 (Mz I hg hm hv ?_ hn hdb);exact qt2 (Cz (ha pos Ac s σ H _ I h) fun us s1 ⟨vs,H1,I1,r1,q1⟩=>hc Ac s1 σ H1 vs us Q I1 r1 q1) he hpl
def Dc(hc:CallR X (.type T) r)(hg:Gl X x)(hm:X.mg x=none)(hv:bootBuiltins x=some (.type T))(ha:PA X (e::es) t)(hn:x≠"__name__":=by decide)(hdb:(x==("__debug__":Str))=false:=by decide)
 (he:starEach (e::es) X.env=(false,eval e X.env)::starEach es X.env:=by rfl) (hpl:(backTo pos (starEach es X.env)).any (·.1)=false:=by rfl):PE X (.Call (.Name x p) (e::es) [] pos) (tCB r t):=by
 intro Ac s σ H Q I h;refine qi9 (Mz I hg hm hv ?_ hn hdb);exact qg9 (Cz (ha pos Ac s σ H _ I h) fun us s1 ⟨vs,H1,I1,r1,q1⟩=>hc Ac s1 σ H1 vs us Q I1 r1 q1) he hpl
end
end L2
namespace HT
open PySem PyProof.Rows
section
open PySem.SeqAt
open PySem.AutoSeq1 (wpAny_loadPart')
open PySem.MeetsSeq PySem.MeetsSeq2 PySem.MeetsSeq3
end
section
variable{prog:Program}{w:World}{A:Around}{E:Value->Shared->Prop}{s:Shared}
def cat_tup{t b:Addr}{vs ws:List Value}{Q:Value->Shared->Prop}(ht:IsTup s.heap t vs.toArray)(hb:IsTup s.heap b ws.toArray)(hv:vs≠[])
 (h1:ws=[]->Q (.ref t) s) (h2:ws≠[]->Q (.ref s.heap.objs.size) { s with heap:=s.heap.push { cls:=.type "tuple",data:=.seq (vs++ws).toArray } })
 (hsz:vs.length+ws.length<=sizeLine):wpAny (model prog w) A (binaryOp .Add (.ref t) (.ref b)) Q E s:=by
 obtain⟨⟨cls,dd,data,sl⟩,ho,hc,n,hd⟩:=id ht;obtain⟨⟨yX,dd2,data2,sl2⟩,ho2,hc2,n2,hd2⟩:=id hb;simp only at hc hd hc2 hd2;subst hc hd hc2 hd2;have e:vs.toArray++ws.toArray=(vs++ws).toArray:=by simp
 by_cases hw:ws=[]
 . exact concat_meets ⟨_,ho,rfl⟩ ⟨_,ho2,rfl⟩ noFill_tuple_add seq_tuple_add qp7 qo9 (qo4 _ _)
    (tuple_addW1 t b vs.toArray ws.toArray n n2 dd dd2 sl sl2 (by simpa using hv) (by simp[hw])) ⟨ho,ho2,h1 hw⟩
 . refine concat_meets ⟨_,ho,rfl⟩ ⟨_,ho2,rfl⟩ noFill_tuple_add seq_tuple_add qp7 qo9 (qo4 _ _)
    (tuple_addW2 t b vs.toArray ws.toArray n n2 dd dd2 sl sl2 (by simpa using hv) (by simpa using hw) (by rw[qc1,qc1];exact hsz)) ⟨ho,ho2,?_⟩
   rw[e];exact h2 hw
noncomputable def sIx(n d:Nat):Option Int->Nat
 | none=>d
 | some v=>if v<0 then(v+(n:Int)).toNat else min v.toNat n
def sIx_none(n d:Nat):sIx n d none=d:=rfl
def sIx_nat(n d k:Nat):sIx n d (some (k:Int))=min k n:=by
 show(if (k:Int)<0 then((k:Int)+(n:Int)).toNat else min (k:Int).toNat n)=min k n;rw[if_neg (by omega),qd0]
theorem uA(n d:Nat)(hd:d<=n)(o:Option Int):sIx n d o<=n:=by
 cases o with
 | none=>exact hd
 | some v =>
   show(if v<0 then(v+(n:Int)).toNat else min v.toNat n)<=n;by_cases hv:v<0
   . rw[if_pos hv];omega
   . rw[if_neg hv];exact Nat.min_le_right _ _
def HD(v:Int)(n d:Nat):(if v<0 then max (v+(n:Int)) 0 else min v (n:Int))=((sIx n d (some v):Nat):Int):=by
 show(if v<0 then max (v+(n:Int)) 0 else min v (n:Int))=(((if v<0 then(v+(n:Int)).toNat else min v.toNat n):Nat):Int)
 by_cases hv:v<0
 . simp only[if_pos hv];omega
 . simp only[if_neg hv];omega
theorem gE(lo hi:Option Int)(n:Nat):Builtin.Slice.sliceAdjust lo hi 1 (n:Int)=(((sIx n 0 lo:Nat):Int),((sIx n n hi:Nat):Int)):=by
 have h1:¬((1:Int)<0):=by omega
 unfold Builtin.Slice.sliceAdjust;simp only[h1,if_false];refine Prod.ext ?_ ?_
 . cases lo with
   | none=>rfl
   | some v=>exact HD v n 0
 . cases hi with
   | none=>rfl
   | some v=>exact HD v n n
def ED(i j:Nat):Builtin.Slice.slicePlaces (i:Int) (j:Int) 1=j-i:=by
 unfold Builtin.Slice.slicePlaces;have h1:(1:Int) > 0:=by omega
 simp only[h1,if_true,Int.ediv_one];split<;>omega
theorem Ud{v:Value}{o:Option Int}{Q:Option Int->Shared->Prop}(p:IsPart v o)(h:Q o s):wpAny (model prog w) A (Builtin.Slice.slicePartIndex v) Q E s:=by
 cases p with
 | none=>exact slicePart_none h
 | int i t=>exact slicePart_int h
def Q6{sl:Addr}{vl vu:Value}{lo hi:Option Int}{n:Nat}{Q:Int × Int × Nat->Shared->Prop}(hs:s.heap.IsSliceOf sl vl vu .none)(pl:IsPart vl lo)(pu:IsPart vu hi)
 (h:Q (((sIx n 0 lo:Nat):Int),1,sIx n n hi-sIx n 0 lo) s):wpAny (model prog w) A (Builtin.Slice.sliceApplied (.ref sl) (pure (n:Int))) Q E s:=by
 obtain⟨os,hos,hcs,hds⟩:=id hs;unfold Builtin.Slice.sliceApplied Builtin.Slice.sliceFields;refine qa1 (qa1 (qg7 hos hds (x:=vl) rfl (qa1 (qg7 hos hds (x:=vu) rfl (qa1 (qg7 hos hds (x:=.none) rfl (qa6 ?_)))))));refine qa1 (slicePart_none ?_);show wpAny _ _ (if ((1:Int)==0)=true then _ else _) _ _ s;rw[if_neg (by decide)];refine qa1 (Ud pl (qa1 (Ud pu (qa1 (qa6 ?_)))));show wpAny _ _ (match Builtin.Slice.sliceAdjust lo hi 1 (n:Int) with | (lo,hi)=>pure (lo,(1:Int),Builtin.Slice.slicePlaces lo hi 1)) _ _ s;rw[gE lo hi n];show wpAny _ _ (pure (((sIx n 0 lo:Nat):Int),(1:Int),Builtin.Slice.slicePlaces ((sIx n 0 lo:Nat):Int) ((sIx n n hi:Nat):Int) 1)) _ _ s;rw[ED];exact qa6 h
def ME(xs:Array Value)(i k:Nat):((List.range k).filterMap fun(m:Nat)=>xs[((i:Int)+(m:Int)*1).toNat]?).toArray=((xs.toList.drop i).take k).toArray:=by
 have e:(fun(m:Nat)=>xs[((i:Int)+(m:Int)*1).toNat]?)=fun m=>xs[i+m]?:=by
  funext m
  have:((i:Int)+(m:Int)*1).toNat=i+m:=by omega
  rw[this]
 rw[e];have:=pick_run xs i k;rw[List.filterMap_map]at this;have e2:((fun x=>xs[x]?) ∘ fun x=>i+x)=fun m=>xs[i+m]?:=rfl;rw[e2]at this;rw[this]
theorem getItem_tuple_cut{t sl:Addr}{items:Array Value}{vl vu:Value}{lo hi:Option Int}{Q:Value->Shared->Prop}(ht:IsTup s.heap t items)(hs:s.heap.IsSliceOf sl vl vu .none)(pl:IsPart vl lo)(pu:IsPart vu hi)
 (hw:¬(sIx items.size 0 lo=0/\sIx items.size items.size hi=items.size))
 (h:Q (.ref s.heap.objs.size) { s with heap:=s.heap.push { cls:=.type "tuple",data:=.seq ((items.toList.drop (sIx items.size 0 lo)).take (sIx items.size items.size hi-sIx items.size 0 lo)).toArray } })
 (hsz:items.size<=sizeLine):wpAny (model prog w) A (getItem (.ref t) (.ref sl)) Q E s:=by
 have gU:sizeOk (.seq ((items.toList.drop (sIx items.size 0 lo)).take (sIx items.size items.size hi-sIx items.size 0 lo)).toArray):=by
  show((items.toList.drop (sIx items.size 0 lo)).take (sIx items.size items.size hi-sIx items.size 0 lo)).toArray.size<=sizeLine;rw[qc1,qc4,qn0,qr5];omega
 have hj:sIx items.size items.size hi<=items.size:=uA _ _ (qa8 _) hi;obtain⟨os,hos,hcs,hds⟩:=id hs;have hTs:s.TypeIs (.ref sl) "slice":=⟨os,hos,hcs⟩
 unfold getItem
 try with_reducible refine qf3 ?_
 first | refine qa1 (qa6 ?_) | skip
 refine qa1 (wpAny_sequenceKey ht.typeIs (by decide) ?_)
 refine qa1 (wpAny_callSpecial?_slot (name:=Str.ofString "__getitem__") ht.typeIs qs7
  (qf5 qs7 ht.typeIs entry_tuple_getitem ?_ (args_tuple_getitem _ _)))
 show wpAny _ _ (Builtin.Tuple.tupleItemsOf (.ref t)>>=_) _ _ s;refine qa1 (tupleItemsOf_ ht ?_);refine qa1 (wpAny_typeOf hTs ?_);rw[if_pos (by decide)];refine qa1 (Q6 hs pl pu ?_)
 have hno:¬((((sIx items.size 0 lo:Nat):Int)==0&&(1:Int)==1&&(sIx items.size items.size hi-sIx items.size 0 lo)==items.size)=true):=by
  intro q;rw[qb4,qb4]at q;have q1:((sIx items.size 0 lo:Nat):Int)=0:=eq_of_beq q.1.1;have q2:sIx items.size items.size hi-sIx items.size 0 lo=items.size:=eq_of_beq q.2;exact hw ⟨by omega,by omega⟩
 show wpAny _ _ (if (((sIx items.size 0 lo:Nat):Int)==0&&(1:Int)==1&&(sIx items.size items.size hi-sIx items.size 0 lo)==items.size)=true then _ else _) _ _ s;rw[if_neg hno,ME]
 first
  | exact qa1 (m:=Builtin.Tuple.tupleExact _) (qg0 (qa6 ⟨_,rfl,qa6 h⟩) gU)
  | exact qa1 (m:=Builtin.Tuple.tupleExact _) (qg0 (qa1 (qa6 (qa6 ⟨_,rfl,qa6 h⟩))) gU)
  | exact qa1 (qa1 (m:=Builtin.Tuple.tupleExact _) (qg0 (qa6 (qa6 ⟨_,rfl,qa6 h⟩)) gU))
  | exact qa1 (qa1 (m:=Builtin.Tuple.tupleExact _) (qg0 (qa6 ⟨_,rfl,qa6 h⟩) gU))
end
end HT
namespace L2
open PySem PySem.Spec PyProof.Rows
abbrev TO:=St->Hp->(Option Int->Hp->Prop)->Prop
def PO(X:Cx)(e:Option Expr)(t:TO):Prop :=
 ∀(Ac:LAObj) (s:Shared) (σ:St) (H:Hp) (Q:Option Int->Hp->Prop),Inv X Ac σ H s->t σ H Q →
   wpAny (model X.prog X.w) X.A (evalPart e X.env) (fun u s'=>∃o H',Inv X Ac σ H' s'/\IsPart u o/\Q o H') X.xe s
def pS:TO:=fun _ H Q=>Q none H
def wX(t:TE):TO:=fun σ H Q=>t σ H fun x H1=>∃i,x=.int i/\Q (some i) H1
section
variable{X:Cx}{e:Expr}{te:TE}{lo hi:Option Expr}{tl th:TO}{pos p2:Pos}
def Jl:PO X none pS:=by
 intro Ac s σ H Q I h;rw[evalPart_none];exact qa6 ⟨none,H,I,.none,h⟩
def Gs(h:PE X e te):PO X (some e) (wX te):=by
 intro Ac s σ H Q I hw;rw[evalPart_some];refine Cz (h Ac s σ H _ I hw) fun u s1 _z=>?_;obtain⟨x,H1,I1,r1,q1⟩:=_z;obtain⟨i,rfl,q⟩:=q1;obtain⟨t,rfl⟩:=r1;exact⟨some i,H1,I1,.int i t,q⟩
def WQ(X:Cx)(r:V->Option Int->Option Int->Hp->VK->Prop):Prop :=
 ∀(Ac:LAObj) (s:Shared) (σ:St) (H:Hp) (x:V) (v vl vu:Value) (lo hi:Option Int) (sl:Addr) (Q:VK),Inv X Ac σ H s->RelV x v->s.heap.IsSliceOf sl vl vu .none->IsPart vl lo->IsPart vu hi->r x lo hi H Q →
   ∃T id,typeLookup (.type T) "__getitem__"=pure (some (.builtin id))/\s.TypeIs v T/\wpAny (model X.prog X.w) X.A (getItem v (.ref sl)) (EP X Ac σ Q) X.xe s
def tSl(r:V->Option Int->Option Int->Hp->VK->Prop)(te:TE)(tl th:TO):TE:=fun σ H Q=>te σ H fun x H1=>tl σ H1 fun l H2=>th σ H2 fun u H3=>r x l u H3 Q
def Fm{r:V->Option Int->Option Int->Hp->VK->Prop}(hr:WQ X r)(he:PE X e te)(hl:PO X lo tl)(hu:PO X hi th):PE X (.Subscript e (.Slice lo hi none p2) pos) (tSl r te tl th):=by
 intro Ac s σ H Q I h;refine Subscript_ (Cz (he Ac s σ H _ I h) fun v s1 _z=>?_);obtain⟨x,H1,I1,r1,q1⟩:=_z;refine wpAny_Slice (Cz (hl Ac s1 σ H1 _ I1 q1) fun vl s2 ⟨l,H2,I2,pl,q2⟩=>Cz (hu Ac s2 σ H2 _ I2 q2) fun vu s3 _z=>?_);obtain⟨u,H3,I3,pu,q3⟩:=_z;rw[evalPart_none];refine qa6 ?_;have I4:Inv X Ac σ H3 { s3 with heap:=s3.heap.push { cls:=.type "slice",data:=.fields #[vl,vu,.none] } }:=I3.kept (t':=s3.toks) fun b ob q=>qa4 _ q;obtain⟨T,id,hT,ht,hg⟩:=hr Ac { s3 with heap:=s3.heap.push { cls:=.type "slice",data:=.fields #[vl,vu,.none] } } σ H3 x v vl vu l u s3.heap.objs.size Q I4 r1 (Heap.IsSliceOf.new ..) pl pu q3;show wpAny (model X.prog X.w) X.A (subscriptTail e (.Slice lo hi none p2) v (.ref s3.heap.objs.size)) (EP X Ac σ Q) X.xe { s3 with heap:=s3.heap.push { cls:=.type "slice",data:=.fields #[vl,vu,.none] } };exact tail_any (ops:=[.ref s3.heap.objs.size,v]) ht hT hg (by with_unfolding_all rfl)
def Qh(xs:List V)(lo hi:Option Int):List V:=(xs.drop (HT.sIx xs.length 0 lo)).take (HT.sIx xs.length xs.length hi-HT.sIx xs.length 0 lo)
def Sq(xs:List V)(lo hi:Option Int):(Qh xs lo hi).length<=xs.length:=by
 unfold Qh;rw[qc4,qn0];omega
def Ab5(K:W.Frag):V->Option Int->Option Int->Hp->VK->Prop:=fun x lo hi H Q=>∃a xs,x=.ref a/\Fw K H a xs ∧
 ¬(HT.sIx xs.length 0 lo=0/\HT.sIx xs.length xs.length hi=xs.length)/\∀p,H p=none->Q (.ref p) (upd H p (.tup (Qh xs lo hi)))
def TX:WQ X (Ab5 X.K):=by
 intro Ac s σ H x v vl vu lo hi sl Q I rx hs pl pu h;obtain⟨a,xs,rfl,hx,hw,q⟩:=h;cases rx;obtain⟨its,r,ht,hz⟩:=I.tuple hx;have hlen:its.toArray.size=xs.length:=by rw[qc1];exact r.length.symm
 refine⟨"tuple",_,qs7.lookup,ht.typeIs,?_⟩;refine HT.getItem_tuple_cut ht hs pl pu (by rw[hlen];exact hw) ?_ (by rw[hlen];exact hz);rw[hlen];refine⟨.ref s.heap.objs.size,_,I.laid (t':=s.toks) (o:=.tup (Qh xs lo hi)) (fun b ob q=>qa4 _ q) (qa8 _) ?_,rfl,q _ (I.hok.fresh (qa8 _))⟩;exact⟨qe5 (Sq xs lo hi) hz,_,(r.drop (HT.sIx xs.length 0 lo)).take (HT.sIx xs.length xs.length hi-HT.sIx xs.length 0 lo),J7.new _ _⟩
def XI(K:W.Frag):R2:=fun x y H Q=>∃a b xs ys,x=.ref a/\y=.ref b/\Fw K H a xs/\Fw K H b ys/\xs≠[]/\xs.length+ys.length<=sizeLine ∧
 (ys=[]->Q (.ref a) H)/\(ys≠[]->∀p,H p=none->Q (.ref p) (upd H p (.tup (xs++ys))))
theorem Vals.nil_iff{xs:List V}{us:List Value}(r:Vals xs us):us=[]↔xs=[]:=by
 cases r with
 | nil=>simp
 | cons _ _=>simp
def qK:OpR X (binaryOp .Add) (XI X.K):=by
 intro Ac s σ H x y v u Q I rx ry h;obtain⟨a,b,xs,ys,rfl,rfl,ha,hb,hx,hz,q1,q2⟩:=h;cases rx;cases ry;obtain⟨its,r1,p1,_⟩:=I.tuple ha;obtain⟨its2,r2,p2,_⟩:=I.tuple hb;refine HT.cat_tup p1 p2 (fun z=>hx (r1.nil_iff.mp z)) (fun z=>⟨.ref a,H,I,rfl,q1 (r2.nil_iff.mp z)⟩) (fun z=>?_) (by rw[←r1.length,←r2.length];exact hz);refine⟨.ref s.heap.objs.size,_,I.laid (t':=s.toks) (o:=.tup (xs++ys)) (fun b ob q=>qa4 _ q) (qa8 _) ?_,rfl,q2 (fun w=>z (r2.nil_iff.mpr w)) _ (I.hok.fresh (qa8 _))⟩;exact⟨by rw[qd1];exact hz,_,r1.append r2,J7.new _ _⟩
end
def wL(n:Nat)(i:Int):Option Nat:=if 0<=i then(if i<n then some i.toNat else none) else if -(n:Int)<=i then some (i+n).toNat else none
def Pp{α:Type}(xs:List α)(i:Int):Option α:=(wL xs.length i).bind fun j=>xs[j]?
def QX{n:Nat}{i:Int}{j:Nat}(h:wL n i=some j):seqIndex? i n=some j/\j<n/\-(n:Int)<=i/\i<n:=by
 unfold wL at h;by_cases h0:0<=i
 . rw[if_pos h0]at h;by_cases h1:i<n
   . rw[if_pos h1]at h;have e:i.toNat=j:=qd4 h;exact⟨by rw[seqIndex_of h0 h1,e],by omega,by omega,h1⟩
   . rw[if_neg h1]at h;cases h
 . rw[if_neg h0]at h;by_cases h1:-(n:Int)<=i
   . rw[if_pos h1]at h;have e:(i+n).toNat=j:=qd4 h;exact⟨by rw[seqIndex_neg (by omega) h1,e],by omega,h1,by omega⟩
   . rw[if_neg h1]at h;cases h
theorem HL{α:Type}{xs:List α}{i:Int}{v:α}(h:Pp xs i=some v):∃j,seqIndex? i xs.length=some j/\xs[j]?=some v/\j<xs.length/\-(xs.length:Int)<=i/\i<xs.length:=by
 unfold Pp at h;cases e:wL xs.length i with
 | none=>rw[e]at h;cases h
 | some j =>
   rw[e]at h;obtain⟨h1,h2,h3,h4⟩:=QX e;exact⟨j,h1,h,h2,h3,h4⟩
def Dw{α:Type}{xs:List α}{j:Nat}{v:α}(h:xs[j]?=some v):Pp xs (j:Int)=some v:=by
 have hj:j<xs.length:=(qa2.mp h).1
 have e:wL xs.length (j:Int)=some j:=by
  unfold wL;rw[if_pos (by omega),if_pos (by omega)];simp
 unfold Pp;rw[e];exact h
def HM(b:Expr):Prop:=∀o i,subscripted b false o i=operate [o,i] (getItem o i)
def YZ(X:Cx)(r:R2):Prop :=
 ∀(value slice:Expr) (Ac:LAObj) (s:Shared) (σ:St) (H:Hp) (x y:V) (v u:Value) (Q:VK),Inv X Ac σ H s->RelV x v->RelV y u->r x y H Q →
   subscripted slice false v u=operate [v,u] (getItem v u)->wpAny (model X.prog X.w) X.A (subscriptTail value slice v u) (EP X Ac σ Q) X.xe s
def MtR(X:Cx)(id:String)(r:V->List V->Hp->VK->Prop):Prop :=
 ∀(Ac:LAObj) (s:Shared) (σ:St) (H:Hp) (x:V) (xs:List V) (v:Value) (us:List Value) (Q:VK),Inv X Ac σ H s->RelV x v->Vals xs us->r x xs H Q →
   wpAny (model X.prog X.w) X.A (call (.builtin id) (v::us)) (EP X Ac σ Q) X.xe s
section
variable{X:Cx}{a b:Expr}{ta tb:TE}{pos:Pos}
def Bp{r:R2}(hr:YZ X r)(ha:PE X a ta)(hb:PE X b tb)(hs:HM b):PE X (.Subscript a b pos) (WX r ta tb):=by
 intro Ac s σ H Q I h;exact Subscript_ (WB ha hb I h fun v u s2 x y H2 I2 rx ry q=>hr a b Ac s2 σ H2 x y v u Q I2 rx ry q (hs _ _))
def xH(K:W.Frag):R2:=fun x y H Q=>∃p xs i v,x=.ref p/\y=.int i/\SqL K H p xs/\Pp xs i=some v/\Q v H
def uC(K:W.Frag):R2:=fun x y H Q=>∃p xs i v,x=.ref p/\y=.int i/\Fw K H p xs/\Pp xs i=some v/\Q v H
def qX:YZ X (xH X.K):=by
 intro value slice Ac s σ H x y v u Q I rx ry h hs;obtain⟨p,xs,i,z,rfl,rfl,hq,he,q⟩:=h;cases rx;obtain⟨t,rfl⟩:=ry;obtain⟨its,r,pl,hz⟩:=I.list hq;obtain⟨j,h1,h2,h3,h4,h5⟩:=HL he;obtain⟨w,ew,rw'⟩:=r.get h2;have hl:=r.length;have hn:=eZ;have fin:EP X Ac σ Q w s:=⟨z,H,I,rw',q⟩
 by_cases h0:0<=i
 . have hj:i.toNat=j:=by
    rw[seqIndex_of h0 h5]at h1;exact qd4 h1
   exact item_listR pl.isList h0 (by omega) (by rw[hj];simpa using ew) fin hs
 . have hj:(i+(its.toArray.size:Int)).toNat=j:=by
    rw[seqIndex_neg (by omega) h4]at h1;rw[qc1,←hl];exact qd4 h1
   exact subscriptTail_builtinR (x:=w) pl.isList.typeIs slot_list_getitem.lookup
    (wpAny_getItem_list_neg (Q:=fun r s'=>r=w/\EP X Ac σ Q r s') pl.isList (by omega) (by rw[qc1]<;>omega) (by omega) (by rw[hj];simpa using ew) ⟨rfl,fin⟩) hs
def vB:YZ X (uC X.K):=by
 intro value slice Ac s σ H x y v u Q I rx ry h hs;obtain⟨p,xs,i,z,rfl,rfl,hq,he,q⟩:=h;cases rx;obtain⟨t,rfl⟩:=ry;obtain⟨its,r,pl,hz⟩:=I.tuple hq;obtain⟨j,h1,h2,h3,h4,h5⟩:=HL he;obtain⟨w,ew,rw'⟩:=r.get h2;have hl:=r.length;have hn:=eZ;have fin:EP X Ac σ Q w s:=⟨z,H,I,rw',q⟩
 exact subscriptTail_builtinR (x:=w) pl.typeIs slot_tuple_getitem.lookup
  (getItem_tuple (j:=j) (Q:=fun r s'=>r=w/\EP X Ac σ Q r s') pl (by omega) (by omega) (by rw[qc1,←hl];exact h1) (by simpa using ew) ⟨rfl,fin⟩) hs
theorem Zw(lo hi:Option Int)(n:Nat):(sliceBounds lo hi none n).1=((HT.sIx n 0 lo:Nat):Int)/\(sliceBounds lo hi none n).2.1=((HT.sIx n n hi:Nat):Int)/\(sliceBounds lo hi none n).2.2=1:=by
 refine⟨?_,?_,rfl⟩
 . cases lo with
   | none=>simp[sliceBounds,HT.sIx]
   | some i =>
     simp only[sliceBounds,HT.sIx,Option.getD_none,show(1:Int) > 0 by decide,if_true];by_cases h:i<0
     . simp only[h,if_true]<;>omega
     . simp only[h,if_false]<;>omega
 . cases hi with
   | none=>simp[sliceBounds,HT.sIx]
   | some i =>
     simp only[sliceBounds,HT.sIx,Option.getD_none,show(1:Int) > 0 by decide,if_true];by_cases h:i<0
     . simp only[h,if_true]<;>omega
     . simp only[h,if_false]<;>omega
def W3(its:List Value)(lo hi:Option Int):slicePick its.toArray lo hi none=((its.drop (HT.sIx its.length 0 lo)).take (HT.sIx its.length its.length hi-HT.sIx its.length 0 lo)).toArray:=by
 obtain⟨h1,h2,h3⟩:=Zw lo hi its.toArray.size;unfold slicePick;rw[h1,h2,h3];simp only[sliceRange_one,pick_run,qc1]<;>rfl
def xG(K:W.Frag):V->Option Int->Option Int->Hp->VK->Prop:=fun x lo hi H Q=>∃a xs,x=.ref a/\SqL K H a xs/\∀p,H p=none->Q (.ref p) (upd H p (.lst (Qh xs lo hi)))
def pX:WQ X (xG X.K):=by
 intro Ac s σ H x v vl vu lo hi sl Q I rx hs pl pu h;obtain⟨a,xs,rfl,hx,q⟩:=h;cases rx;obtain⟨its,r,ht,hz⟩:=I.list hx;have hlen:=r.length;refine⟨"list",_,slot_list_getitem.lookup,ht.isList.typeIs,?_⟩;refine wpAny_getItem_list_slice ht.isList hs pl pu .none (by simp) ?_ (by rw[qc1]<;>omega);rw[W3,←hlen];refine⟨.ref s.heap.objs.size,_,I.laid (t':=s.toks) (o:=.lst (Qh xs lo hi)) (fun b ob q=>qa4 _ q) (qa8 _) ?_,rfl,q _ (I.hok.fresh (qa8 _))⟩;exact⟨qe5 (Sq xs lo hi) hz,_,0,(r.drop (HT.sIx xs.length 0 lo)).take (HT.sIx xs.length xs.length hi-HT.sIx xs.length 0 lo),qb3 _ rfl⟩
def aD:CallR X (.builtin "len") (fun xs H Q=>∃p ys,xs=[.ref p]/\(SqL X.K H p ys\/Fw X.K H p ys)/\Q (.int ys.length) H):=by
 intro Ac s σ H xs us Q I r h;obtain⟨p,ys,rfl,hq,q⟩:=h;obtain⟨u,rfl,rx⟩:=L5 r;cases rx;have hn:=eZ;rcases hq with hq | hq
 . obtain⟨its,r',pl,hz⟩:=I.list hq;have hlen:=r'.length;exact Calls.call_len_list pl.isList (by simp only[qc1]<;>omega) ⟨.int ys.length,H,I.tok _,⟨s.toks+1,by rw[qc1,hlen]⟩,q⟩
 . obtain⟨its,r',pl,hz⟩:=I.tuple hq;have hlen:=r'.length;exact len_tuple pl (by simp only[qc1]<;>omega) ⟨.int ys.length,H,I.tok _,⟨s.toks+1,by rw[qc1,hlen]⟩,q⟩
def aC:CallR X (.type "list") (fun xs H Q=>∃p ys,xs=[.ref p]/\(SqL X.K H p ys\/Fw X.K H p ys)/\∀l,H l=none->Q (.ref l) (upd H l (.lst ys))):=by
 intro Ac s σ H xs us Q I r h;obtain⟨p,ys,rfl,hq,q⟩:=h;obtain⟨u,rfl,rx⟩:=L5 r;cases rx
 have fin:∀(its:List Value),Vals ys its->ys.length<=sizeLine->∀(h':Heap) (c':Nat),(∀b o',s.heap.get? b=some o'->h'.get? b=some o') →
  h'.get? s.heap.objs.size=some { cls:=.type "list",dict:=none,data:=.seq its.toArray c',slots:=#[] }->EP X Ac σ Q (.ref s.heap.objs.size) { s with heap:=h' }:=fun its r' hz h' c' kp e =>
  ⟨.ref s.heap.objs.size,_,I.laid (t':=s.toks) kp (qa8 _) (show ObjOk X.prog X.w _ h' _ (.lst ys) from⟨hz,its,c',r',e⟩),rfl,q _ (I.hok.fresh (qa8 _))⟩
 rcases hq with hq | hq
 . obtain⟨its,r',pl,hz⟩:=I.list hq;have hlen:=r'.length;obtain⟨o,ho,hc,n,hd⟩:=pl.isList;exact call_list_seq p (.inl rfl) ho hc hd (fun h' c' kp e=>fin its r' hz h' c' kp e) (by simp only[qc1]<;>omega)
 . obtain⟨its,r',pl,hz⟩:=I.tuple hq;have hlen:=r'.length;obtain⟨o,ho,hc,n,hd⟩:=pl;exact call_list_seq p (.inr rfl) ho hc hd (fun h' c' kp e=>fin its r' hz h' c' kp e) (by simp only[qc1]<;>omega)
def Xr:CallR X (.type "tuple") (fun xs H Q=>∃p ys,xs=[.ref p]/\((SqL X.K H p ys/\∀l,H l=none->Q (.ref l) (upd H l (.tup ys)))\/(Fw X.K H p ys/\Q (.ref p) H))):=by
 intro Ac s σ H xs us Q I r h;obtain⟨p,ys,rfl,h⟩:=h;obtain⟨u,rfl,rx⟩:=L5 r;cases rx;rcases h with⟨hq,q⟩|⟨hq,q⟩
 . obtain⟨its,r',pl,hz⟩:=I.list hq;have hlen:=r'.length;refine call_tuple_list pl.isList (fun h' kp=>?_) (by simp only[qc1]<;>omega);have I1:Inv X Ac σ H { s with heap:=h' }:=I.kept (t':=s.toks) kp
   have I2:Inv X Ac σ (upd H h'.objs.size (.tup ys)) { s with heap:=h'.push { cls:=.type "tuple",data:=.seq its.toArray } } :=
    I1.laid (t':=s.toks) (fun b o e=>qa4 _ e) (qa8 _) (show ObjOk X.prog X.w _ _ _ (.tup ys) from⟨hz,its,r',J7.new _ _⟩)
   exact⟨.ref h'.objs.size,_,I2,rfl,q _ (I1.hok.fresh (qa8 _))⟩
 . obtain⟨its,r',pl,hz⟩:=I.tuple hq;exact call_tuple_same pl ⟨.ref p,H,I,rfl,q⟩
def tyV(K:W.Frag)(T:String)(x:V)(H:Hp):Prop:=match x with
 | .str _=>T="str"
 | .int _=>T="int"
 | .ref p=>(T="list"/\∃xs,SqL K H p xs)\/(T="tuple"/\∃o,K.lookup p=some o/\o.cls=.type "tuple"/\o.dict=none) ∨
    (T="dict"/\((∃kvs,H p=some (.dK kvs))\/∃kvs,H p=some (.dT kvs)))\/(T="set"/\∃S n,H p=some (.set S n))
 | _=>False
theorem TN{Ac:LAObj}{σ:St}{H:Hp}{s:Shared}{T:String}{x:V}{v:Value}(I:Inv X Ac σ H s)(r:RelV x v)(ty:tyV X.K T x H) :
 s.TypeIs v T/\∀a,v=.ref a->∃ob,s.heap.get? a=some ob/\ob.dict=none:=by
 cases x with
 | str z =>
   obtain⟨t,rfl⟩:=r;cases (show T="str" from ty);exact⟨typeIs_str s z t,fun _ e=>nomatch e⟩
 | int i =>
   obtain⟨t,rfl⟩:=r;cases (show T="int" from ty);exact⟨typeIs_int s i t,fun _ e=>nomatch e⟩
 | ref p =>
   cases r;rcases ty with⟨rfl,xs,hq⟩|⟨rfl,o,hk,hc,hd⟩|⟨rfl,hk⟩|⟨rfl,S,n,hk⟩
   . obtain⟨its,_,pl,_⟩:=I.list hq;refine⟨pl.isList.typeIs,fun a e=>?_⟩;cases e;obtain⟨o,n,e,c,hd,_⟩:=pl;exact⟨o,e,hd⟩
   . refine⟨⟨o,I.kIn p o hk,hc⟩,fun a e=>?_⟩;cases e;exact⟨o,I.kIn _ o hk,hd⟩
   . have z:∃o,s.heap.get? p=some o/\o.ExactDict:=by
      rcases hk with⟨kvs,hk⟩|⟨kvs,hk⟩
      . obtain⟨_,_,_,_,o,_,_,e,ex,_⟩:=I.hok p _ hk;exact⟨o,e,ex⟩
      . obtain⟨_,_,_,_,o,_,_,e,ex,_⟩:=I.hok p _ hk;exact⟨o,e,ex⟩
     obtain⟨o,e,ex⟩:=z;refine⟨⟨o,e,ex.1⟩,fun a e2=>?_⟩;cases e2;exact⟨o,e,ex.2.1⟩
   . obtain⟨o,_,_,_,e,ex,_⟩:=I.hok p _ hk;refine⟨⟨o,e,ex.1⟩,fun a e2=>?_⟩;cases e2;exact⟨o,e,ex.2.1⟩
 | _=>exact False.elim ty
def tBM(K:W.Frag)(T:String)(r:V->List V->Hp->VK->Prop)(to:TE)(t:TA):TE:=fun σ H Q=>to σ H fun x H1=>tyV K T x H1/\t σ H1 fun xs H2=>r x xs H2 Q
variable{o e:Expr}{es:List Expr}{to:TE}{t:TA}{name:Str}{apos cpos:Pos}{T id:String}{r:V->List V->Hp->VK->Prop}
def xK(pa:PlainAttrs T)(slot:Slot T name id)(hty:typeOf (.builtin id)=pure (.type "method_descriptor"))(hm:MtR X id r)(ho:PE X o to)(ha:PA X (e::es) t)
 (hbase:attributeBase o name X.env (eval o X.env)=eval o X.env:=by rfl)
 (hfew:((backTo cpos (starEach (e::es) X.env)).all (fun x=>!x.1)&&(backToKw cpos (keywordEach [] X.env)).all (fun x=>x.1.isSome)
   && decide ((e::es).length+([]:List Keyword).length+(if ([]:List Keyword).isEmpty then 0 else 1)<30))=true:=by rfl)
 (hline:(apos.endLine==cpos.line)=true:=by rfl) (hs:starEach (e::es) X.env=(false,eval e X.env)::starEach es X.env:=by rfl) (hplain:(backTo cpos (starEach es X.env)).any (·.1)=false:=by rfl) :
 PE X (.Call (.Attribute o name apos) (e::es) [] cpos) (tBM X.K T r to t):=by
 intro Ac s σ H Q I h;refine wpAny_Call_method_late hbase hfew hline rfl (Cz (ho Ac s σ H _ I h) fun v s1 _z=>?_);obtain⟨x,H1,I1,r1,ty,q1⟩:=_z;obtain⟨h1,h2⟩:=TN I1 r1 ty;refine⟨T,id,pa,slot,hty,h1,h2,?_⟩;have hA:=ha cpos Ac s1 σ H1 _ I1 q1;rw[hs]at hA ⊢;refine qg5 (by show(false || (backTo cpos (starEach es X.env)).any (·.1))=false;rw[hplain]<;>rfl) (ql6 ?_);exact Cz hA fun us s2 ⟨vs,H2,I2,r2,q2⟩=>hm Ac s2 σ H2 x vs v us Q I2 r1 r2 q2
end
def MtM(X:Cx)(id:String)(r:V->List V->Hp->VK->Prop):Prop :=
 ∀(Ac:LAObj) (s:Shared) (σ:St) (H:Hp) (x:V) (xs:List V) (v:Value) (us:List Value) (Q:VK),Inv X Ac σ H s->RelV x v->Vals xs us->r x xs H Q →
   wpAny (model X.prog X.w) X.A (call (.builtin id) (v::us)) (EP X Ac σ Q) X.xe s
theorem Vals.one:∀{x:V}{us:List Value},Vals [x] us->∃u,us=[u]/\RelV x u
 | _,_,.cons r .nil=>⟨_,rfl,r⟩
theorem Vals.rep{xs:List V}{us:List Value}(h:Vals xs us):∀k:Nat,Vals (List.replicate k xs).flatten (List.replicate k us).flatten
 | 0=>.nil
 | k+1=>by
   rw[qi1,qi1,qm7,qm7];exact Vals.append h (Vals.rep h k)
theorem Yv(its:List Value):∀(k:Nat) (acc:List Value),
 List.foldl (fun x1 x2=>x1++x2) acc.toArray (List.replicate k its.toArray)=(acc++(List.replicate k its).flatten).toArray
 | 0,acc=>by simp
 | k+1,acc=>by
   have e:acc.toArray++its.toArray=(acc++its).toArray:=by simp
   have e2:(acc++its)++(List.replicate k its).flatten=acc++(List.replicate (k+1) its).flatten:=by
    rw[qi1,qm7,List.append_assoc]
   rw[←e2,←Yv its k (acc++its),←e,qi1,List.foldl_cons]
section
variable{X:Cx}{Ac:LAObj}{σ:St}{H:Hp}{s:Shared}{l b:Addr}{xs ys zs:List V}
def Inv.lset{its its':List Value}{n:Nat}{f:Array Value->Array Value}{t':Nat}(I:Inv X Ac σ H s)(hH:H l=some (.lst xs))
 (e:s.heap.get? l=some { cls:=.type "list",data:=.seq its.toArray n }) (hf:f its.toArray=its'.toArray) (hv:Vals ys its') (hz:ys.length<=sizeLine) :
 Inv X Ac σ (upd H l (.lst ys)) { s with heap:=s.heap.update l (Obj.mapSeq f),toks:=t' }:=by
 have q:=PySem.IsL.update e f;rw[hf]at q;refine I.write (x:=l) (e:=l) (by rw[hH];exact trivial) (.inl rfl) (fun b' u hb hu=>(qe7 s.heap (Obj.mapSeq f) (Ne.symm hb)).trans hu) ⟨_,q⟩ ?_;exact⟨hz,its',_,hv,q⟩
def Inv.lnew{its:List Value}{t':Nat}(I:Inv X Ac σ H s)(hv:Vals ys its)(hz:ys.length<=sizeLine) :
 Inv X Ac σ (upd H s.heap.objs.size (.lst ys)) { s with heap:=s.heap.push { cls:=.type "list",data:=.seq its.toArray },toks:=t' } :=
 I.laid (fun _ _ q=>qa4 _ q) (qa8 _) ⟨hz,its,0,hv,qb3 _ rfl⟩
theorem Inv.fresh(I:Inv X Ac σ H s):H s.heap.objs.size=none:=I.hok.fresh (qa8 _)
def Inv.lstM(I:Inv X Ac σ H s)(hH:H l=some (.lst xs)):xs.length<=sizeLine/\∃(its:List Value) (n:Nat),Vals xs its/\xs.length=its.length/\s.heap.get? l=some { cls:=.type "list",data:=.seq its.toArray n }:=by
 obtain⟨z,its,n,r,e⟩:=I.hok l _ hH;exact⟨z,its,n,r,r.length,e⟩
def BO{n:Nat}(h:n<=sizeLine):Builtin.List.listTooLong n=false:=by
 unfold Builtin.List.listTooLong;exact qe3 (by omega)
end
section
variable{X:Cx}
def qE:V->List V->Hp->VK->Prop:=fun x vs H Q=>∃l xs y,x=.ref l/\vs=[y]/\H l=some (.lst xs)/\xs.length<sizeLine/\Q .non (upd H l (.lst (xs++[y])))
def C1:MtM X "list.append" qE:=by
 intro Ac s σ H x vs v us Q I rx rv h;obtain⟨l,xs,y,rfl,rfl,hH,hz,q⟩:=h;cases rx;obtain⟨u,rfl,ru⟩:=rv.one;obtain⟨z,its,n,r,hl,e⟩:=I.lstM hH;refine call_meets F.slot_list_append ⟨_,e,rfl⟩ F.entry_list_append (F.args_list_append_2 _ _) (PySem.list_append l its.toArray n u (by rw[qc1];omega)) ⟨e,?_⟩;refine⟨.non,_,I.lset (its':=its++[u]) hH e (by simp) (r.append (.cons ru .nil)) ?_,rfl,q⟩;rw[qd1,qh3];omega
def qD:V->List V->Hp->VK->Prop:=fun x vs H Q=>∃l b xs zs,x=.ref l/\vs=[.ref b]/\H l=some (.lst xs)/\H b=some (.lst zs)/\xs.length+zs.length<=sizeLine/\Q .non (upd H l (.lst (xs++zs)))
def jK:MtM X "list.extend" qD:=by
 intro Ac s σ H x vs v us Q I rx rv h;obtain⟨l,b,xs,zs,rfl,rfl,hH,hB,hz,q⟩:=h;cases rx;obtain⟨u,rfl,ru⟩:=rv.one;cases ru;obtain⟨z,its,n,r,hl,e⟩:=I.lstM hH;obtain⟨z2,its2,n2,r2,hl2,e2⟩:=I.lstM hB;have hsz:its.toArray.size+its2.toArray.size<=sizeLine:=by rw[qc1,qc1];omega
 have NS:¬(!its.toArray.isEmpty&&Builtin.List.listTooLong (its.toArray.size+its2.toArray.size))=true:=by
  rw[BO hsz,Bool.and_false];exact qc2
 refine call_meets F.slot_list_extend ⟨_,e,rfl⟩ F.entry_list_extend (F.args_list_extend_2 _ _)
  (AutoSeq1.list_extend_list_list_0 l its.toArray n b its2.toArray n2 NS (by rw[qc1];omega) (by omega)) ⟨e,e2,?_⟩
 refine⟨.non,_,I.lset (its':=its++its2) hH e (by simp) (r.append r2) ?_,rfl,q⟩;rw[qd1];omega
def Ab6:R2:=fun x y H Q=>∃l k xs,x=.ref l/\y=.int k/\H l=some (.lst xs)/\-(2 ^ 63)<=k/\k<2 ^ 63/\xs.length*k.toNat<=sizeLine ∧
 ∀p,H p=none->Q (.ref p) (upd H p (.lst (List.replicate k.toNat xs).flatten))
theorem QU{α:Type}(xs:List α)(k:Nat):(List.replicate k xs).flatten.length=k*xs.length:=by
 induction k with
 | zero=>simp
 | succ k ih=>rw[qi1,qm7,qd1,ih,Nat.succ_mul,Nat.add_comm]
theorem uJ:OpR X (binaryOp .Mult) Ab6:=by
 intro Ac s σ H x y v u Q I rx ry h;obtain⟨l,k,xs,rfl,rfl,hH,h1,h2,hz,q⟩:=h;cases rx;obtain⟨t,rfl⟩:=ry;obtain⟨z,its,n,r,hl,e⟩:=I.lstM hH;have hlen:its.toArray.size*k.toNat<=sizeLine:=by rw[qc1,←hl];exact hz
 have hcap:¬its.toArray.size*k.toNat > (2 ^ 63-1) / 8:=by
  have:(sizeLine:Nat)<=(2 ^ 63-1) / 8:=by decide
  omega
 have hfit:¬(!Builtin.List.listFitsIndex k)=true:=by
  rw[fitsIndex_both h1 h2];exact qc2
 have NS:¬Builtin.List.listTooLong (its.toArray.size*k.toNat)=true:=by
  rw[BO hlen];exact qc2
 have hnew:List.foldl (fun x1 x2=>x1++x2) #[] (List.replicate (if its.toArray.isEmpty=true then 0 else k.toNat) its.toArray)=(List.replicate k.toNat its).flatten.toArray:=by
  have f0:∀m:Nat,List.foldl (fun x1 x2=>x1++x2) #[] (List.replicate m its.toArray)=(List.replicate m its).flatten.toArray:=fun m=>by
   have:=Yv its m [];rw[qm2]at this;exact this
  rw[f0];cases its with
  | nil=>simp
  | cons a r'=>rw[if_neg (by simp)]
 refine wpAny_binaryOp_repeat_ref (T:="list") (U:="int") (by decide) ⟨_,e,rfl⟩ (fun s'=>typeIs_int s' k t) noFill_list_mul F.fills_int_mul F.slot_int_rmul repeat_list F.slot_int_index.lookup
  (call_meets F.slot_int_rmul (typeIs_int s k t) F.entry_int_rmul (F.args_int_rmul_2 _ _) (int___rmul___int_list k t l its.toArray n)
    ⟨e,rfl,⟨_,e,rfl⟩,call_meets F.slot_list_mul ⟨_,e,rfl⟩ F.entry_list_mul (F.args_list_mul_2 _ _) (AutoListH.list___mul___list_int_3 l its.toArray n k t hfit hcap NS) ⟨e,?_⟩⟩)
 rw[hnew];exact⟨.ref _,_,I.lnew (t':=s.toks) (r.rep k.toNat) (by rw[QU,Nat.mul_comm];exact hz),rfl,q _ I.fresh⟩
end
section
variable{prog:Program}{w:World}{A:Around}{E:Value->Shared->Prop}{s:Shared}
end
section
variable{X:Cx}
end
end L2
namespace Att
open PySem PySem.W PySem.Calls PyProof.Rows
theorem Tg{P:Params}{h:Heap}:∀(ns:List Int) (vs:List Value),WellAll P h vs (ns.map WData.int)->IntsAre vs ns:=by
 intro ns
 induction ns with
 | nil =>
   intro vs w;rw[qj1]at w;cases w;exact .nil
 | cons n ns ih =>
   intro vs w;rw[qc6]at w;cases w with
   | cons a b =>
     cases a;exact .cons _ _ (ih _ b)
theorem IJ{l:OpenLaw}{n:Nat}(hn:l.most=some n){P:Params}{h:Heap}{args:List WData}{vals:List Value}
 (hpre:l.row.toRowW.claim.pre args=true) (hwl:WellAll P h vals args) :
 ∃a vs ns,vals=[Value.ref a]/\args=[WData.list (ns.map WData.int)]/\h.get? a=some { cls:=.type "list",data:=.seq vs.toArray }/\IntsAre vs ns/\ns.length<=n:=by
 have hsh:WShape.hasAll [] args [.list .int]=true:=(pre_splitW hpre).1;have hc:l.pre.holds [] { args:=args }=true:=(pre_splitW hpre).2;obtain⟨d,r,rfl,h1,h2⟩:=hasAllW_cons hsh;obtain rfl:=hasAllW_nil h2;obtain⟨xs,rfl,h3⟩:=hasW_list h1;obtain⟨ns,rfl⟩:=items_int h3
 have hlen:ns.length<=n:=by
  unfold OpenLaw.pre at hc
  have h4:(WTm.not (.lt (.lit (.int (n:Int))) (.len (.arg 0)))).holds [] { args:=[.list (ns.map .int)] }=true:=by
   have h4:=(holds_andW hc).1;rw[hn]at h4;exact h4
  have h5:=condW_of h4 (w_not (w_lt w_lit (w_len_list (w_arg rfl))));rw[qa3]at h5;refine Nat.le_of_not_lt fun q=>?_;have q':(n:Int)<((ns.length:Nat):Int):=by omega
  first
   | (rw[qd3 q']at h5;exact absurd h5 (by decide))
   | (simp at h5;omega)
 cases hwl with
 | cons w1 w2 =>
   cases w2;cases w1 with
   | list ho hall=>exact⟨_,_,ns,rfl,rfl,ho,Tg ns _ hall,hlen⟩
def iP(l:OpenLaw)(args:List WData):l.row.toRowW.claim.post args (.bool true) args=true :=
 postW_of (r:=l.row.toRowW) (X:=(true==true))
  (show WShape.has [] (.bool true) .bool=true by first | rfl | decide | simp[WShape.has,WShape.arms,WShape.armsAll])
  (show(WTm.eq .res (.lit (.bool true))).value [] { args:=args,res:=some (.bool true),after:=args }=some (.bool (true==true)) from w_eq_bool (w_res rfl) w_lit) rfl
def attach_call{l:OpenLaw}{n:Nat}{q:Program}{loose:List Str}{XP:(Str->Option Value)->Heap->Prop}{YP:World->Heap->Prop}{d:DefRec}
 (hn:l.most=some n) (hdf:d.params.defaults=[])
 (call:∀(w:World) (s₀ s₁:Shared) (mg mb:Str->Option Value) (fa:Addr) (o:Obj) (pm cd doc:Value) (a:Addr) (vs:List Value) (ns:List Int),
   Ground q loose [] XP w s₀ mg mb s₁.heap->YP w s₁.heap →
   s₁.heap.get? fa=some o->o.data=.func (docDef d.name d.params d.body d.scope pm cd doc)->s₁.heap.CodeRec cd d.name->mg d.name=some (.ref fa) →
   s₁.heap.get? a=some { cls:=.type "list",data:=.seq vs.toArray }->IntsAre vs ns->ns.length<=n->s₁.gens=#[] →
   codeAny (model l.prog w) callerA (.call (.ref fa) ⟨[.ref a],[]⟩) (fun r s'=>r=.ok (.ret (.bool true))/\OldK s₁.heap s'.heap/\s'.os=s₁.os/\AllBare s'.gens) s₁) :
 WalkO q loose XP YP l.row.toRowW d [] (fun f vs=>PySem.call f vs):=by
 intro w s₀ s₁ mg mb G Y fa o pm cd doc dV kV ho hd hcd hD hmg hg args vals as hpre hlay hrd hwl hlo;obtain rfl:dV=.none:=Dflts.none hD hdf;obtain rfl:kV=.none:=Dflts.noKw hD;obtain⟨a,vs,ns,rfl,rfl,hobj,hints,hlen⟩:=IJ hn hpre hwl;refine enter_call (codeAny_mono (call w s₀ s₁ mg mb fa o pm cd doc a vs ns G Y ho (fd_plain hd) hcd hmg hobj hints hlen hg) fun r s' hq=>?_);obtain⟨rfl,h2,h3,h4⟩:=hq;exact⟨.inl ⟨.bool true,.bool true,[],rfl,fun _=>rfl,.bool true,iP l _,fun _=>⟨List.Pairwise.nil,fun _ hm=>(nomatch hm)⟩⟩,h2,h3,h4⟩
section
variable{prog:Program}{w:World}{A:Around}{E:Value->Shared->Prop}{s:Shared}{K:Frag}
end
end Att
namespace L2
open PySem PySem.Spec PyProof.Rows
theorem Xy:∀{vs:List Value}{ns:List Int},IntsAre vs ns->Vals (ns.map V.int) vs
 | _,_,.nil=>.nil
 | _,_,.cons n t h=>.cons ⟨t,rfl⟩ (Xy h)
def WG(H:Hp):Prop:=∀b,H b=none\/∃o xs,H b=some (.frz o (.lst xs))
theorem NH{P:Program}{w:World}{K:W.Frag}{mg mb:Str->Option Value}{CX:LF}{k:Nat}{fa a:Addr}{fd:FuncData}{x:Str}{sp:Sp}{s₁:Shared}{vs:List Value}{ns:List Int}
 (KX:K.In s₁.heap) (hns:s₁.heap.Ns mainGlobals mg) (hb:s₁.heap.Ns builtinsNs mb) (hbb:∀x:Str,x≠"__name__"->mb x=bootBuiltins x) (hlim:s₁.heap.NoLimit) (hg:s₁.gens=#[])
 (ha:s₁.heap.get? a=some { cls:=.type "list",data:=.seq vs.toArray }) (hi:IntsAre vs ns) (hl:ns.length<=sizeLine) (hr:E5 k callerA)
 (F:∀base:Heap,K.In base->base.Ns mainGlobals mg->B4 P w K mg base CX k fa fd [x] sp) (hbind:∀(s:Shared) (u:Value),BindsTo s fd ⟨[u],[]⟩ [(x,u)])
 (fL:∀H:Hp,WG H->SqL K H a (ns.map V.int)->sp [.ref a] H (fun v _=>v=.bl true) fun _ _ _=>False)
 (hCX:∀H e s',CX [] H s₁ (fun _ _ _=>False) e s'->False) :
 codeAny (model P w) callerA (.call (.ref fa) ⟨[.ref a],[]⟩) (fun r s'=>r=.ok (.ret (.bool true))/\OldK s₁.heap s'.heap/\s'.os=s₁.os/\AllBare s'.gens) s₁:=by
 have rv:=Xy hi;have Ad1:=hi.length
 have core:∀H:Hp,WG H->SqL K H a (ns.map V.int)->Md P w H s₁.heap->(∀b,H b≠none->b=a)->(H a≠none->K.lookup a=none) →
  codeAny (model P w) callerA (.call (.ref fa) ⟨[.ref a],[]⟩) (fun r s'=>r=.ok (.ret (.bool true))/\OldK s₁.heap s'.heap/\s'.os=s₁.os/\AllBare s'.gens) s₁:=by
  intro H hO hS hok hA hK;have HH:∀{b:Addr}{o:Obj},s₁.heap.get? b=some o->H b=none->(m9 s₁.heap H).get? b=some o:=fun e n=>nU e n
  have XR:∀{b:Addr}{o:Obj}{es:Array DictEntry}{ep:Nat},s₁.heap.get? b=some o->o.data=.dict es ep->H b=none:=fun {b o es ep} e d=>by
   cases q:H b with
   | none=>rfl
   | some u =>
     have e':b=a:=hA b (by rw[q];simp);subst e';rw[ha]at e;cases e;have d':Data.seq vs.toArray _=Data.dict es ep:=d;cases d'
  have ZD:∀{b:Addr}{m:Str->Option Value},s₁.heap.Ns b m->(m9 s₁.heap H).Ns b m:=fun {b m} ⟨o,es,ep,e,d,r⟩=>⟨o,es,ep,HH e (XR e d),d,r⟩
  have hKb:K.In (m9 s₁.heap H):=fun b o e=>HH (KX b o e) (by
   cases q:H b with
   | none=>rfl
   | some u =>
     have e':b=a:=hA b (by rw[q];simp);subst e';rw[hK (by rw[q];simp)]at e;cases e)
  have hM:Mod K mg (m9 s₁.heap H):=⟨hKb,ZD hns,⟨mb,ZD hb,hbb⟩,let ⟨mc,h1,h2⟩:=hlim;⟨mc,ZD h1,h2⟩⟩
  have e0:Xu P w K mg (m9 s₁.heap H) callerA [] s₁ H:=⟨rfl,hM,fun b o e=>qO e,Nat.le_of_eq (JV _ _),trivial,fun b hb=>absurd (show b∈([]:List Addr) from hb) (by simp),hok,.of_eq hg⟩
  refine codeAny_mono ((F _ hKb (ZD hns)).run callerA [] s₁ H ⟨[.ref a],[]⟩ [.ref a] [.ref a] _ _ hr e0 (hbind s₁ (.ref a)) (.cons rfl .nil) (fL H hO hS)) fun r s' h=>?_;cases r with
  | error e=>exact(hCX H e s' h).elim
  | ok fl =>
    cases fl with
    | next=>exact False.elim h
    | brk=>exact False.elim h
    | cont=>exact False.elim h
    | ret u =>
      obtain⟨v,H',os,bare,un,Af1,r',q⟩:=h;have q':v=.bl true:=q;subst q';obtain rfl:u=Value.bool true:=r';refine⟨rfl,OldK.of_keep fun b o e=>?_,os,bare⟩;cases q:H b with
      | none=>exact un.keep b o e q (by intro z;exact absurd (show b∈([]:List Addr) from z) (by simp)) (by simp)
      | some u =>
        rcases hO b with z|⟨ob,xs,z⟩
        . rw[q]at z;cases z
        . have z2:=un.frzs b ob _ z;obtain⟨e1,_⟩:=hok b _ z;obtain⟨e2,_⟩:=Af1 b _ z2;rw[e]at e1;cases e1;exact e2
 cases hk:K.lookup a with
 | some o =>
   have e:=KX a o hk;rw[ha]at e;cases e;refine core (fun _=>none) (fun _=>.inl rfl) (.inr ⟨_,vs.toArray,_,hk,rfl,rfl,rfl,by rw[qc1,Ad1];exact hl,by simpa using rv⟩) (fun b u z=>by have z':(none:Option HO)=some u:=z;cases z') (fun b z=>absurd rfl z) fun z=>absurd rfl z
 | none =>
   refine core (fun b=>if b=a then some (.frz { cls:=.type "list",data:=.seq vs.toArray } (.lst (ns.map V.int))) else none) (fun b=>?_) (.inl (.inr ⟨{ cls:=.type "list",data:=.seq vs.toArray },if_pos rfl⟩)) (fun b u z=>?_) (fun b z=>?_) fun _=>hk
   . by_cases hb:b=a
     . exact .inr ⟨_,_,if_pos hb⟩
     . exact .inl (if_neg hb)
   . by_cases hb:b=a
     . have z':=(if_pos hb).symm.trans z;cases z';subst hb;exact⟨ha,by rw[qa3];exact hl,vs,_,rv,ha⟩
     . have z':=(if_neg hb).symm.trans z;cases z'
   . by_cases hb:b=a
     . exact hb
     . exact absurd (if_neg hb) z
def walk_of{l:PySem.W.OpenLaw}{n k:Nat}{q:Program}{loose:List Str}{XP:(Str->Option Value)->Heap->Prop}{YP:World->Heap->Prop}{d:DefRec}{K:Params->PySem.W.Frag}{CX:World->LF}{sp:World->Sp}{x:Str}
 (hn:l.most=some n) (hn2:n<=sizeLine) (hdf:d.params.defaults=[]) (hr:E5 k callerA)
 (hY:∀(w:World) (h:Heap),YP w h->(K w.params).In h)
 (F:∀(w:World) (mg:Str->Option Value) (fa:Addr) (h:Heap),(K w.params).In h->h.Ns mainGlobals mg->mg d.name=some (.ref fa) →
   ∃fd:FuncData,(∀(s:Shared) (u:Value),BindsTo s fd ⟨[u],[]⟩ [(x,u)]) ∧
     ∀base:Heap,(K w.params).In base->base.Ns mainGlobals mg->B4 l.prog w (K w.params) mg base (CX w) k fa fd [x] (sp w))
 (fL:∀(w:World) (H:Hp) (a:Addr) (ns:List Int),ns.length<=n->WG H->SqL (K w.params) H a (ns.map V.int)->sp w [.ref a] H (fun v _=>v=.bl true) fun _ _ _=>False)
 (hCX:∀(w:World) (H:Hp) (s:Shared) (e:Value) (s':Shared),CX w [] H s (fun _ _ _=>False) e s'->False) :
 PySem.W.WalkO q loose XP YP l.row.toRowW d [] (fun f vs=>PySem.call f vs):=by
 refine Att.attach_call hn hdf fun w s₀ s₁ mg mb fa o pm cd doc a vs ns G Y ho hd hcd hmg hobj hints hlen hg=>?_;have KX:=hY w _ Y;obtain⟨fd,hb,hF⟩:=F w mg fa _ KX G.T.g hmg;exact NH KX G.T.g G.T.b G.T.builtins G.T.nolimit hg hobj hints (qe5 hlen hn2) hr hF hb (fun H hO hS=>fL w H a ns hlen hO hS) fun H e s'=>hCX w H s₁ e s'
noncomputable def qZ(s:Stmt)(j:Nat):Stmt:=match s with
 | .ClassDef _ _ _ body _ _ _ _ _ _ _=>body.getD j (.Pass ⟨0,0,0,0⟩)
 | _=>.Pass ⟨0,0,0,0⟩
noncomputable def Bf(s:Stmt):Arguments:=match s with
 | .FunctionDef _ a _ _ _ _ _ _ _ _=>a
 | _=>{ posonlyargs:=[],args:=[],vararg:=none,kwonlyargs:=[],kw_defaults:=[],kwarg:=none,defaults:=[] }
noncomputable def Bc(s:Stmt):List Stmt:=match s with
 | .FunctionDef _ _ b _ _ _ _ _ _ _=>b
 | _=>[]
noncomputable def Al(s:Stmt):Scope:=match s with
 | .FunctionDef _ _ _ _ _ _ sc _ _ _=>sc
 | _=>{ kind:=.function,names:=[],isGenerator:=false,isCoroutine:=false }
abbrev Fv:LF:=fun _ _ _ _ _ _=>False
abbrev E0:XK:=fun _ _ _=>False
def xM{X:Cx}:GF Fv X E0:=fun _ _ _ _ _ _ _ h=>h.elim
structure Ft(K:W.Frag)(x qual:Str)(st:Stmt)(f:Addr)(fd:FuncData):Prop where
 ex:∃(oc:Value) (od:OAddr) (kV doc pm:Value) (an:OAddr) (C7 ct:Value) (osl:Bs),
  fd=W.fnOf x qual (Bf st) (Bc st) (Al st) .none kV doc pm an C7 ct/\K.lookup f=some ⟨oc,od,.func fd,osl⟩/\W.codeIn K C7 qual=true
 kp:W.keepIn K (.ref f)=true
section
variable{P:Program}{w:World}{K:W.Frag}{mg:Str->Option Value}{base:Heap}
def Ft.ok{x qual:Str}{st:Stmt}{f:Addr}{fd:FuncData}{N ps:List Str}{k:Nat}{sp:Sp}(F:Ft K x qual st f fd)(S:FnScope N ps (Al st))(len:∀vs H Q E,sp vs H Q E->vs.length=ps.length)
 (hbody:∀(C7:Value) (A:Around) (outer:List Env) (s:Shared) (H:Hp) (vs:List V) (Q:VK) (E:XK),E5 k (A.deeper (envOfC qual (Al st) s.heap.objs.size f C7))->sp vs H Q E →
   ∃t,dG (Vy Fv P w K mg base N qual (Al st) f C7 A outer s H E).nox (Bc st) t/\t { nx:=fun _ H'=>Q .non H',rt:=Q } (J9 N vs) H):B4 P w K mg base Fv (k+1) f fd ps sp:=by
 obtain⟨oc,od,kV,doc,pm,an,C7,ct,osl,rfl,lk,hcd⟩:=F.ex;refine SS lk hcd S len fun A outer s H vs Q E hr fL=>?_;obtain⟨t,h,q⟩:=hbody C7 A outer s H vs Q E hr fL;exact⟨t,h.nox,q⟩
def Ft.binds{x qual:Str}{st:Stmt}{f:Addr}{fd:FuncData}{ps:List Str}(F:Ft K x qual st f fd)
 (h:∀(kV doc pm:Value) (an:OAddr) (C7 ct:Value) (us:List Value),us.length=ps.length->bindArgs (W.fnOf x qual (Bf st) (Bc st) (Al st) .none kV doc pm an C7 ct) ⟨us,[]⟩=pure (ps.zip us)):Nt K fd ps []:=by
 obtain⟨oc,od,kV,doc,pm,an,C7,ct,osl,rfl,lk,hcd⟩:=F.ex;exact .all (h kV doc pm an C7 ct)
def Bm{x qual:Str}{st:Stmt}{f:Addr}{oc:Value}{od an:OAddr}{osl:Bs}{kV doc pm C7 ct:Value}(l:K.lookup f=some ⟨oc,od,.func (W.fnOf x qual (Bf st) (Bc st) (Al st) .none kV doc pm an C7 ct),osl⟩)
 (c:W.codeIn K C7 qual=true) (k:W.keepIn K (.ref f)=true):Ft K x qual st f (W.fnOf x qual (Bf st) (Bc st) (Al st) .none kV doc pm an C7 ct):=⟨⟨oc,od,kV,doc,pm,an,C7,ct,osl,rfl,l,c⟩,k⟩
end
section
variable{X:Cx}
def pv(i:Nat){x:Str}{pos:Pos}(hN:X.N[i]?=some x:=by rfl)(hv:ZT X.env.scope x:=by first | exact Or.inl rfl | exact Or.inr (Or.inl rfl) | exact Or.inr (Or.inr rfl))(hd:(x==("__debug__":Str))=false:=by decide)
 (hcd:(x==("__classdict__":Str))=false:=by decide):PE X (.Name x pos) (WV i):=UH hN hv hd hcd
end
def ite2{c A B:Prop}[Decidable c](h1:c->A)(h2:¬c->B):if c then A else B:=by
 by_cases h:c
 . rw[if_pos h];exact h1 h
 . rw[if_neg h];exact h2 h
def Ah(H H':Hp):Prop:=∀b o,H b=some o->H' b=some o
def Ah.refl(H:Hp):Ah H H:=fun _ _ h=>h
def Ah.trans{H H1 H2:Hp}(a:Ah H H1)(b:Ah H1 H2):Ah H H2:=fun c o h=>b c o (a c o h)
theorem Ah.free{H H':Hp}(e:Ah H H'){l:Addr}(h:H' l=Option.none):H l=Option.none:=by
 cases q:H l with
 | none=>rfl
 | some o =>
   rw[e l o q]at h;cases h
def Ah.seq{K:W.Frag}{H H':Hp}{a:Addr}{xs:List V}(e:Ah H H')(h:SqL K H a xs):SqL K H' a xs:=by
 rcases h with(h|⟨o,h⟩) | h
 . exact .inl (.inl (e _ _ h))
 . exact .inl (.inr ⟨o,e _ _ h⟩)
 . exact .inr h
noncomputable def Xq(cells:List (Str × Addr)):List (Str × NameKind)->List (Str × Addr)->List (Str × Addr)
 | [],acc=>acc
 | (n,k)::r,acc=>Xq cells r (if (k==NameKind.free)=true then(n,(cells.lookup n).getD 0)::acc else acc)
theorem V4{sc:Scope}{env:Env}(h:∀n,(n,NameKind.free)∈sc.names->∃c,env.cells.lookup n=some c):closureFor sc env=pure (Xq env.cells sc.names []):=by
 have all:∀(l:List (Str × NameKind)) (acc:List (Str × Addr)),(∀n,(n,NameKind.free)∈l->∃c,env.cells.lookup n=some c) →
  (forIn l acc fun(x:Str × NameKind) (cs:List (Str × Addr))=>match x with
    | (name,kind)=>if (kind==NameKind.free)=true then(do let c ←cellOf env name;pure (ForInStep.yield ((name,c)::cs))) else pure (ForInStep.yield cs))=(pure (Xq env.cells l acc):Sem _):=by
  intro l
  induction l with
  | nil=>intro acc _;rfl
  | cons x r ih =>
    intro acc hl;obtain⟨n,k⟩:=x;rw[List.forIn_cons];by_cases hk:(k==NameKind.free)=true
    . have hk':k=NameKind.free:=by simpa using hk
      subst hk';obtain⟨c,hc⟩:=hl n qb2;have e1:cellOf env n=pure c:=by unfold cellOf;rw[hc]
      simp only[beq_self_eq_true,if_true,e1,pure_bind];rw[ih _ fun m hm=>hl m (qb0 _ hm)];show _=(pure (Xq env.cells r (if (NameKind.free==NameKind.free)=true then(n,(env.cells.lookup n).getD 0)::acc else acc)):Sem _)
      rw[if_pos (by simp),hc];rfl
    . have hk2:(k==NameKind.free)=false:=by simpa using hk
      simp only[hk2,qo1,if_false,pure_bind];rw[ih _ fun m hm=>hl m (qb0 _ hm)];show _=(pure (Xq env.cells r (if (k==NameKind.free)=true then(n,(env.cells.lookup n).getD 0)::acc else acc)):Sem _)
      rw[if_neg hk]
 have:=all sc.names [] h;unfold closureFor;dsimp only;rw[this,pure_bind]
theorem Fe{cells:List (Str × Addr)}{x:Str}{c:Addr}:∀{l:List (Str × NameKind)}{acc:List (Str × Addr)},(∀n,(n,NameKind.free)∈l->∃c,cells.lookup n=some c) →
 (acc.lookup x=some c->cells.lookup x=some c)->(Xq cells l acc).lookup x=some c->cells.lookup x=some c
 | [],_,_,ha,h=>ha h
 | (n,k)::r,acc,hl,ha,h=>by
   refine Fe (l:=r) (fun m hm=>hl m (qb0 _ hm)) ?_ h;by_cases hk:(k==NameKind.free)=true
   . rw[if_pos hk];have hk':k=NameKind.free:=by simpa using hk
     subst hk';obtain⟨d,hd⟩:=hl n qb2;intro e;rw[ql2]at e;cases hx:x==n with
     | true =>
       rw[hx]at e;have hxn:x=n:=by simpa using hx
       subst hxn;rw[hd]at e ⊢;exact e
     | false=>rw[hx]at e;exact ha e
   . rw[if_neg hk];exact ha
theorem V5{cells:List (Str × Addr)}{x:Str}:∀{l:List (Str × NameKind)}{acc:List (Str × Addr)},((x,NameKind.free)∈l\/∃c,acc.lookup x=some c)->∃c,(Xq cells l acc).lookup x=some c
 | [],_,h=>by
   rcases h with h | h
   . exact nomatch h
   . exact h
 | (n,k)::r,acc,h=>by
   refine V5 (l:=r) ?_;by_cases hk:(k==NameKind.free)=true
   . rw[if_pos hk];by_cases hx:(x==n)=true
     . exact .inr ⟨(cells.lookup n).getD 0,by rw[ql2,hx]⟩
     . have JU:(x==n)=false:=by simpa using hx
       rcases h with h|⟨c,h⟩
       . rcases qc0.mp h with e | e
         . have e1:x=n:=congrArg Prod.fst e;exact absurd (by simp[e1]) hx
         . exact .inl e
       . exact .inr ⟨c,by rw[ql2,JU];exact h⟩
   . rw[if_neg hk];rcases h with h | h
     . rcases qc0.mp h with e | e
       . have e2:NameKind.free=k:=congrArg Prod.snd e;exact absurd (by simp[←e2]) hk
       . exact .inl e
     . exact .inr h
def D7(X:Cx)(sc:Scope)(N':List Str)(C:Addr)(s₀:Shared)(H₀:Hp)(fp:List Addr):Cx where
 prog:=X.prog
 w:=X.w
 K:=X.K
 mg:=X.mg
 base:=X.base
 A:=X.A
 N:=N'
 s₀:=s₀
 H₀:=H₀
 env:=compEnvC sc (Xq X.env.cells sc.names []) C X.env
 outer:=X.stack
 stack:=X.stack
 ex:=fp
 fn:=fun _=>false
 calm:=X.calm
 pn:=[]
 xe:=fun _ _=>False
noncomputable def FY(cap:List (Option Nat))(σ:St):St:=cap.map fun o=>o.bind fun j=>(σ[j]?).join
structure S9(X:Cx)(sc:Scope)(N':List Str)(cap:List (Option Nat)):Prop where
 kind:sc.kind=.function
 len:cap.length=N'.length
 nocell:∀x∈sc.names,x.2≠NameKind.cell
 locals:∀x∈sc.names,x.2=NameKind.local->sc.names.lookup x.1=some NameKind.local
 free:∀n,(n,NameKind.free)∈sc.names->X.env.kindOf n=some .cell\/X.env.kindOf n=some .free
 slots:∀(i j:Nat) (x:Str),N'[i]?=some x->cap[i]?=some (some j)->X.N[j]?=some x/\((relabel sc X.env).names.lookup x=some .cell\/(relabel sc X.env).names.lookup x=some .free)/\ZT X.env.scope x
section
variable{X:Cx}{sc:Scope}{N':List Str}{cap:List (Option Nat)}{Ac:LAObj}{σ:St}{H:Hp}{s:Shared}{C:Addr}{fp:List Addr}
theorem S9.cells(c:S9 X sc N' cap)(ok:X.Ok):∀n,(n,NameKind.free)∈sc.names->∃c,X.env.cells.lookup n=some c:=fun n hn=>ok.has n (c.free n hn)
theorem Jk{env:Env}{x:Str}{k:NameKind}(hnc:∀x∈sc.names,x.2≠NameKind.cell)(h:(relabel sc env).names.lookup x=some k)(hk:k=.cell\/k=.free):(x,NameKind.free)∈sc.names:=by
 have all:∀(l:List (Str × NameKind)),(∀x∈l,x.2≠NameKind.cell)->(l.map fun(n,k)=>if (k==NameKind.free&&env.scope.kind==.function&&env.kindOf n==some .cell) then(n,NameKind.cell) else(n,k)).lookup x=some k->(x,NameKind.free)∈l:=by
  intro l
  induction l with
  | nil=>intro _ h;exact nomatch h
  | cons p r ih =>
    intro hn h;obtain⟨n,q⟩:=p;rw[qc6,ql2]at h;by_cases hc:(q==NameKind.free&&env.scope.kind==.function&&env.kindOf n==some .cell)=true
    . have hq:q=NameKind.free:=by
       have:=hc;simp only[qb4]at this;simpa using this.1.1
      simp only[hc,if_true]at h;cases hx:x==n with
      | true =>
        have e:x=n:=by simpa using hx
        rw[e,hq];exact qb2
      | false =>
        rw[hx]at h;exact qb0 _ (ih (fun y hy=>hn y (qb0 _ hy)) h)
    . simp only[hc]at h;cases hx:x==n with
      | true =>
        have e:x=n:=by simpa using hx
        simp only[qo1,if_false,hx]at h;have e2:q=k:=by simpa using h
        rcases hk with z | z
        . exact absurd (e2.trans z) (hn (n,q) qb2)
        . rw[e,←z,←e2];exact qb2
      | false =>
        simp only[qo1,if_false,hx]at h;exact qb0 _ (ih (fun y hy=>hn y (qb0 _ hy)) h)
 exact all sc.names hnc h
def RO(c:S9 X sc N' cap)(I:Inv X Ac σ H s)(hC:s.heap.objs.size<=C)(hf:∀b∈fp,Oo X Ac H b)(hb:∀b∈fp,b<s.heap.objs.size):(D7 X sc N' C s H fp).Ok where
 mod:=I.ok.mod
 kind:=c.kind
 glob:=I.ok.glob
 blt:=I.ok.blt
 above:=hC
 inj:=fun x y a hx hy=>I.ok.inj x y a (Fe (c.cells I.ok) (fun z=>by simp at z) hx) (Fe (c.cells I.ok) (fun z=>by simp at z) hy)
 has:=fun x hx=>by
  refine V5 (.inl ?_);rcases hx with hx | hx
  . exact Jk c.nocell hx (.inl rfl)
  . exact Jk c.nocell hx (.inr rfl)
 cab:=fun _ _ h=>nomatch h
 hd:=I.ok.hd
 frames:=I.ok.frames
 stk:=.inl rfl
 exf:=fun b hb'=>⟨qb8 (qc5 (hb b hb') hC),fun x a e=>(hf b hb').2.2.2.2.1 x a (Fe (c.cells I.ok) (fun z=>by simp at z) e)⟩
 bs:=I.bs
 bsz:=qe5 I.ok.bsz I.sz
 noex:=fun b o e hb'=>by
  rcases (hf b hb').2.2.2.1 with z | z
  . exact I.ok.noex b o e z
  . exact absurd (qc5 (qa9 e) (qe5 I.ok.bsz z)) (qh7 _)
 exfs:=fun b hb' z=>by
  obtain⟨_,f1,f2,_⟩:=hf b hb';rcases qc0.mp (I.stkSub b z) with e | e
  . exact f1 e
  . exact f2 e
 funs:=I.stack
 frf:=I.stkFree
theorem oU(c:S9 X sc N' cap)(I:Inv X Ac σ H s){D:Addr}{h1:Heap}{t:Nat}(hC:C=s.heap.objs.size+1)(hD:D=s.heap.objs.size)(hf:∀b∈fp,Oo X Ac H b)(hb:∀b∈fp,b<s.heap.objs.size)
 (hn:h1.Ns C fun _=>none) (hl:h1.get? D=some { cls:=.type "list",data:=.seq #[] 0 }) (k:∀b o,s.heap.get? b=some o->h1.get? b=some o) :
 Inv (D7 X sc N' C s H fp) [] (FY cap σ) (upd H D (.lst [])) { s with heap:=h1,toks:=t }:=by
 have hCs:s.heap.objs.size<=C:=by rw[hC];exact qp0 _
 have hCD:C≠D:=by rw[hC,hD];exact ql1 _
 have ok:=RO (C:=C) (fp:=fp) c I hCs hf hb;have hDn:H D=none:=by rw[hD];exact I.fresh
 have zH:∀x a,(Xq X.env.cells sc.names []).lookup x=some a->X.env.cells.lookup x=some a:=fun x a e=>Fe (c.cells I.ok) (fun z=>by simp at z) e;have cel:∀a v,s.heap.IsCell a v->h1.IsCell a v:=fun a v ⟨o,ho,hd⟩=>⟨o,k a o ho,hd⟩
 have ltD:∀a v,s.heap.IsCell a v->a≠D:=fun a v ⟨o,ho,hd⟩=>by rw[hD];exact qb8 (qa9 ho)
 refine⟨ok,rfl,I.bare,Un.laid k (by rw[hD];exact qa8 _) hDn,⟨_,hn,fun i x v e1 e2 e3=>?_⟩,fun x a e=>?_,?_,fun x a e=>?_,fun p hp=>absurd hp (by simp[D7]),?_,?_⟩
 . have vV:cap[i]?.map (fun o=>o.bind fun j=>(σ[j]?).join)=some (some v):=by
    have:=e2;unfold FY at this;rw[qa7]at this;exact this
   cases hc:cap[i]? with
   | none=>rw[hc]at vV;cases vV
   | some o =>
     rw[hc]at vV;cases o with
     | none=>cases vV
     | some j =>
       have e4:(σ[j]?).join=some v:=by simpa using vV
       obtain⟨q1,q2',q3⟩:=c.slots i j x e1 hc;have q2:(x,NameKind.free)∈sc.names:=q2'.elim (fun z=>Jk c.nocell z (.inl rfl)) fun z=>Jk c.nocell z (.inr rfl);obtain⟨m,hm,hl'⟩:=I.loc
       have e5:σ[j]?=some (some v):=by
        cases z:σ[j]? with
        | none=>rw[z]at e4;cases e4
        | some y=>rw[z]at e4;cases y with
          | none=>cases e4
          | some y'=>cases e4;rfl
       obtain⟨u,r,l⟩:=hl' j x v q1 e5 q3;refine⟨u,r,?_⟩;obtain⟨a,ha⟩:=V5 (cells:=X.env.cells) (l:=sc.names) (acc:=[]) (x:=x) (.inl q2);have kd:X.env.kindOf x=some .cell\/X.env.kindOf x=some .free:=c.free x q2;rcases l with⟨hk,_⟩|⟨hk,a',ha',hcell⟩
       . rcases kd with z | z<;>rw[z]at hk<;>cases hk
       . have e6:a'=a:=by
          have:=zH x a ha;rw[ha']at this;exact qd4 this
         refine .inr ⟨q2',a,ha,?_⟩;rw[←e6];exact cel _ _ hcell
 . obtain⟨v,z⟩:=I.cell x a (zH x a e);exact⟨v,cel a v z⟩
 . show upd H D (.lst []) C=none;rw[Ai hCD];exact I.hok.fresh hCs
 . show upd H D (.lst []) a=none;obtain⟨v,z⟩:=I.cell x a (zH x a e);rw[Ai (ltD a v z)];exact I.freeC x a (zH x a e)
 . exact I.hok.laid k (by rw[hD];exact qa8 _) ⟨qb6 _,[],0,.nil,hl⟩
 . show(FY cap σ).length=N'.length;unfold FY;rw[qa3,c.len]
end
noncomputable def rQ(qJ:Scope)(N:List Str)(sc:Scope)(N':List Str)(cap:List (Option Nat)):Bool :=
 decide (sc.kind=.function)&&decide (cap.length=N'.length)&&sc.names.all (fun x=>decide (x.2≠NameKind.cell))&&sc.names.all (fun x=>decide (x.2=NameKind.local->sc.names.lookup x.1=some NameKind.local)) &&
 sc.names.all (fun x=>decide (x.2=NameKind.free->(qJ.names.lookup x.1=some .cell\/qJ.names.lookup x.1=some .free))) &&
 (N'.zip cap).all (fun p=>match p.2 with
   | none=>true
   | some j=>decide (N[j]?=some p.1)&&decide (((sc.names.map fun(n,k)=>if (k==.free&&qJ.kind==.function&&qJ.names.lookup n==some .cell) then(n,NameKind.cell) else(n,k)).lookup p.1=some .cell) ∨
      ((sc.names.map fun(n,k)=>if (k==.free&&qJ.kind==.function&&qJ.names.lookup n==some .cell) then(n,NameKind.cell) else(n,k)).lookup p.1=some .free)) &&
     decide (qJ.names.lookup p.1=some .local\/qJ.names.lookup p.1=some .cell\/qJ.names.lookup p.1=some .free))
def HG{X:Cx}{sc:Scope}{N':List Str}{cap:List (Option Nat)}(h:rQ X.env.scope X.N sc N' cap=true):S9 X sc N' cap:=by
 unfold rQ at h;rw[qb4,qb4,qb4,qb4,qb4,qc8,qc8,qc8,qc8]at h;obtain⟨⟨⟨⟨⟨h1,h2⟩,h3⟩,h4⟩,h5⟩,h6⟩:=h;refine⟨qc9 h1,qc9 h2,fun x hx=>qc9 (h3 x hx),fun x hx=>qc9 (h4 x hx),fun n hn=>qc9 (h5 _ hn) rfl,fun i j x e1 e2=>?_⟩
 have hm:(x,some j)∈N'.zip cap:=by
  have e:(N'.zip cap)[i]?=some (x,some j):=by
   rw[List.getElem?_zip_eq_some];exact⟨e1,e2⟩
  exact qb5 e
 have h7:=h6 _ hm;dsimp only at h7;rw[qb4,qb4]at h7;obtain⟨⟨h8,h9⟩,h10⟩:=h7;exact⟨qc9 h8,qc9 (p:=(relabel sc X.env).names.lookup x=some .cell\/(relabel sc X.env).names.lookup x=some .free) h9,qc9 (p:=X.env.scope.names.lookup x=some .local\/X.env.scope.names.lookup x=some .cell\/X.env.scope.names.lookup x=some .free) h10⟩
def wR(X:Cx)(ifs:List Expr)(t:TT):Prop :=
 ∀(Ac:LAObj) (s:Shared) (σ:St) (H:Hp) (Q:Bool->Hp->Prop),Inv X Ac σ H s->t σ H Q →
   wpAny (model X.prog X.w) X.A (forIn ifs true fun c r=>if r=true then do let ok ←isTrue c X.env (eval c X.env);pure (ForInStep.yield ok) else pure (ForInStep.yield r)) (TP X Ac σ Q) X.xe s
def PR:TT:=fun _ H Q=>Q true H
def C4{X:Cx}:wR X [] PR:=fun _ _ _ H _ I h=>wpAny_tests_nil ⟨H,I,h⟩
def N3{X:Cx}{c:Expr}{t:TT}(h:PT X c t):wR X [c] t:=fun Ac s σ H Q I hw=>wpAny_tests_one (h Ac s σ H Q I hw)
def Tm(J:It)(g:TG)(tc:TT)(te:TE)(D:Addr)(Q:Hp->Prop)(τ:St)(H:Hp):Prop :=
 ∃W:Nat->Nat->List V->St->Hp->Prop,(∃m,W 0 m [] τ H)/\∀i m ys τ H,W i m ys τ H →
   (J.stop i H/\Q H) ∨
   (J.go i H/\∃N:List V->St->Hp->Prop,(∀ys' τ' H',N ys' τ' H'->∃m',m'<m/\W (i+1) m' ys' τ' H') ∧
     ∀x H',J.yld i H x H'->g x τ H' fun τ2 H2=>tc τ2 H2 fun b H3=>if b=true then te τ2 H3 fun y H4=>H4 D=some (.lst ys)/\ys.length<sizeLine/\N (ys++[y]) τ2 (upd H4 D (.lst (ys++[y]))) else N ys τ2 H3)
section
variable{X:Cx}{sc:Scope}{N':List Str}{cap:List (Option Nat)}{tg elt iter:Expr}{ifs:List Expr}{pos:Pos}{g:TG}{tc:TT}{te:TE}
theorem kP{Y:Cx}{J:It}{fp:List Addr}{it D:Addr}{tn:Nat->Heap->Prop}{R:Result->Shared->Prop}{Q:Hp->Prop}{τ:St}{H:Hp}{s:Shared}
 (hx:Y.xe=fun _ _=>False) (hc:Y.calm=true) (hg:PG Y tg g) (ht:wR Y ifs tc) (he:PE Y elt te) (T:Xt Y.prog Y.w Y.K tg J fp it tn) (st:tn 0 s.heap) (hf:∀b∈fp,Oo Y [] H b) (I:Inv Y [] τ H s)
 (h:Tm J g tc te D Q τ H) (hR:∀τ' H' s',Inv Y [] τ' H' s'->Q H'->R (.ok .next) s') :
 codeAny (model Y.prog Y.w) Y.A (.compLoop (.ListComp elt [⟨tg,iter,ifs,0⟩] sc pos) 0 (.ref it) (.ref D) Y.env) R s:=by
 obtain⟨W,⟨m0,w0⟩,turn⟩:=h;have DQ:∀{H':Hp},(∀b∈fp,H' b=none)->∀b∈fp,Oo Y [] H' b:=fun hn b hb=>⟨hn b hb,(hf b hb).2⟩
 have no:∀{P:Prop}{e:Value}{s':Shared},Y.xe e s'->P:=fun z=>by rw[hx]at z;exact z.elim
 refine codeAny_loop rfl (fun n s'=>∃i ys τ' H',Inv Y [] τ' H' s'/\tn i s'.heap/\(∀b∈fp,H' b=none)/\W i n ys τ' H') ?_ m0 ⟨0,[],τ,H,I,st,fun b hb=>(hf b hb).1,w0⟩;rintro n s3 ⟨i,ys,τ3,H3,I3,st3,yP,w3⟩;show wpAny _ Y.A ((compTurn (.ListComp elt [⟨tg,iter,ifs,0⟩] sc pos) 0 (.ref it) (.ref D) Y.env).onRaise (fun x=>do noteFrame x Y.env;theTreesLotGoes x)) _ _ s3;refine wpAny_noted ?_;rw[compTurn_list];refine qa1 (qq7 (qa1 ?_));rcases turn i n ys τ3 H3 w3 with⟨stop,qn⟩|⟨go,N,hN,step⟩
 . refine qe2 (T.done Y rfl rfl rfl hc i [] s3 τ3 H3 (fun _ _=>False) I3 (DQ yP) st3 stop) (fun r s4 _z=>?_) fun _ _ z=>z.elim;obtain⟨hr,I4⟩:=_z;subst hr;exact qa6 (hR _ _ _ I4 qn)
 . refine qe2 (T.item Y rfl rfl rfl hc i [] s3 τ3 H3 (fun _ _=>False) I3 (DQ yP) st3 go) (fun r s4 _z=>?_) fun _ _ z=>z.elim;obtain⟨u,hr,h4⟩:=_z;subst hr;refine qa1 (qe2 h4 (fun _ s5 _z=>?_) fun _ _ z=>z.elim);obtain⟨x,H5,I5,r5,y5,TV,fr5⟩:=_z;have I5':=I5.pinned (DQ fr5) (T.obj _ _ TV)
   have again:∀{τ7:St}{H7:Hp}{ZA:List V}{s7:Shared},Inv Y ([]++Ul fp s5.heap) τ7 H7 s7->N ZA τ7 H7->∃m,m<n/\∃i ys τ' H',Inv Y [] τ' H' s7/\tn i s7.heap/\(∀b∈fp,H' b=none)/\W i m ys τ' H':=fun {τ7 H7 ZA s7} I7 n7=>by
    obtain⟨m',hm,w7⟩:=hN ZA τ7 H7 n7;refine⟨m',hm,i+1,ZA,τ7,H7,I7.unpinned,T.keep _ _ _ TV fun b hb o e=>(I7.pin (b,o) (qe8 _ (qe8 _ (Lj hb e)))).1,fun b hb=>?_,w7⟩;obtain⟨o,e,d⟩:=T.obj _ _ TV b hb;exact(I7.pin (b,o) (qe8 _ (qe8 _ (Lj hb e)))).2.1
   refine qa1 (qe2 (hg _ s5 τ3 H5 x u _ I5' r5 (step x H5 y5)) (fun _ s6 _z=>?_) fun _ _ z=>no z);obtain⟨τ6,H6,I6,q6⟩:=_z;refine qa1 (qe2 (ht _ s6 τ6 H6 _ I6 q6) (fun ok s7 _z=>?_) fun _ _ z=>no z);obtain⟨H7,I7,q7⟩:=_z;cases ok with
   | false =>
     have q8:N ys τ6 H7:=by simpa using q7
     exact qa6 ⟨rfl,again I7 q8⟩
   | true =>
     have q8:te τ6 H7 fun y H4=>H4 D=some (.lst ys)/\ys.length<sizeLine/\N (ys++[y]) τ6 (upd H4 D (.lst (ys++[y]))):=by simpa using q7
     refine qa1 (qa1 (qe2 (he _ s7 τ6 H7 _ I7 q8) (fun y s8 _z=>?_) fun _ _ z=>no z));obtain⟨v8,H8,I8,r8,hD,hl,n8⟩:=_z;refine qa1 (qe2 (C1 _ s8 τ6 H8 (.ref D) [v8] (.ref D) [y] (fun _ H9=>N (ys++[v8]) τ6 H9) I8 rfl (.cons r8 .nil) ⟨D,ys,v8,rfl,rfl,hD,hl,n8⟩) (fun _ s9 _z=>?_) fun _ _ z=>no z);obtain⟨_,H9,I9,_,n9⟩:=_z;exact qa6 (qa6 ⟨rfl,again I9 n9⟩)
def V3{Ac:LAObj}{σ:St}{H:Hp}{s:Shared}{J:It}{fp:List Addr}{it:Addr}{tn:Nat->Heap->Prop}{RR:Value->Addr->Result->Shared->Prop}{Q:Addr->Hp->Prop}{E:Value->Shared->Prop}
 (c:S9 X sc N' cap) (hc:X.calm=true) (hg:∀C s₀ H₀ fp,PG (D7 X sc N' C s₀ H₀ fp) tg g) (ht:∀C s₀ H₀ fp,wR (D7 X sc N' C s₀ H₀ fp) ifs tc) (he:∀C s₀ H₀ fp,PE (D7 X sc N' C s₀ H₀ fp) elt te)
 (I:Inv X Ac σ H s) (T:Xt X.prog X.w X.K tg J fp it tn) (st:tn 0 s.heap) (hf:∀b∈fp,Oo X Ac H b)
 (h:∀D,H D=none->Tm J g tc te D (Q D) (FY cap σ) (upd H D (.lst [])))
 (hR:∀D C s' H' m',H D=none->s.heap.objs.size<=C->s'.os=s.os->AllBare s'.gens->Un (frs X.stack) fp H H' s.heap s'.heap->Md X.prog X.w H' s'.heap->s'.heap.Ns C m'->H' C=none->C ∉ fp->Q D H'->RR (.ref D) C (.ok .next) s') :
 wpAny (model X.prog X.w) X.A (newList []) (fun acc s₃=>wpAny (model X.prog X.w) X.A (newFunctionEnv sc X.env.globals (Xq X.env.cells sc.names []) [] X.env.qual none .none (some X.env)) (fun cenv s₄ =>
  codeAny (model X.prog X.w) X.A (.compStart (.ListComp elt [⟨tg,iter,ifs,0⟩] sc pos) 0 (.ref it) acc { cenv with scope:=relabel sc X.env }) (RR acc cenv.locals) s₄) E s₃) E s:=by
 have hb:∀b∈fp,b<s.heap.objs.size:=fun b hb=>by
  obtain⟨o,e,_⟩:=T.obj _ _ st b hb;exact qa9 e
 refine qg0 (wpAny_newFunctionEnv c.nocell (by intro y hy;simp at hy) (fun h₁ vH RC=>?_) c.kind);dsimp only at vH RC ⊢;generalize sR:s.heap.push { cls:=.type "list",dict:=none,data:=.seq ([]:List Value).toArray }=H2 at vH RC ⊢;have hC:H2.objs.size=s.heap.objs.size+1:=by rw[←sR,qj0]
 have ZM:s.heap.objs.size<=H2.objs.size:=by rw[hC];exact qp0 _
 have WN:s.heap.objs.size≠H2.objs.size:=by rw[hC];exact(ql1 _).symm
 have old:∀b o,s.heap.get? b=some o->h₁.get? b=some o:=fun b o e=>by
  have l1:=qa9 e;exact RC.extBut b o (qb8 (qc5 l1 ZM)) (qa4 _ (sR▸qa4 _ e))
 have hl:h₁.get? s.heap.objs.size=some { cls:=.type "list",data:=.seq #[] 0 }:=RC.extBut _ _ WN (qa4 _ (sR▸qb3 _ rfl));have Af3:h₁.Ns H2.objs.size fun _=>none:=by simpa using vH
 have I4:Inv (D7 X sc N' H2.objs.size s H fp) [] (FY cap σ) (upd H s.heap.objs.size (.lst [])) { s with heap:=h₁,toks:=s.toks+([]:List (Str × Value)).length }:=oU c I hC rfl hf hb Af3 hl old;have hfr:H s.heap.objs.size=none:=I.fresh
 have f4:∀b∈fp,Oo (D7 X sc N' H2.objs.size s H fp) [] (upd H s.heap.objs.size (.lst [])) b:=fun b hb'=>by
  obtain⟨f0,f1,f2,f3,f4,f5⟩:=hf b hb';have lb:=hb b hb';refine⟨by rw[Ai (qb8 lb)];exact f0,(qb8 (qc5 lb ZM):b≠H2.objs.size),fun z=>?_,.inl hb',fun x a e=>f4 x a (Fe (c.cells I.ok) (fun z=>by simp at z) e),fun p hp=>absurd hp (by simp[D7])⟩;rcases qc0.mp (I.stkSub b z) with e | e
  . exact f1 e
  . exact f2 e
 have st4:tn 0 h₁:=T.keep _ _ _ st fun b _ o e=>old b o e
 have loop:∀s₅:Shared,s₅={ s with heap:=h₁,toks:=s.toks+([]:List (Str × Value)).length } →
  codeAny (model X.prog X.w) X.A (.compLoop (.ListComp elt [⟨tg,iter,ifs,0⟩] sc pos) 0 (.ref it) (.ref s.heap.objs.size) (D7 X sc N' H2.objs.size s H fp).env) (RR (.ref s.heap.objs.size) H2.objs.size) s₅:=by
  rintro s₅ rfl;refine kP (Y:=D7 X sc N' H2.objs.size s H fp) (J:=J) (fp:=fp) (tn:=tn) (Q:=Q s.heap.objs.size) rfl hc (hg _ _ _ _) (ht _ _ _ _) (he _ _ _ _) T st4 f4 I4 (h _ hfr) fun τ' H' s' I' q'=>?_;obtain⟨m',hn',_⟩:=I'.loc;exact hR _ _ s' H' m' hfr ZM I'.os I'.bare I'.base I'.hok hn' I'.free (fun z=>absurd (qc5 (hb _ z) ZM) (qh7 _)) q'
 exact codeAny_compStart_list (loop _ rfl) (T.self _ 0 _ _ _ st4 (loop _ rfl))
def RX(wi:TI)(cap:List (Option Nat))(g:TG)(tc:TT)(te:TE):TE:=fun σ H Q=>wi σ H fun J H1=>∀D,H1 D=none->Tm J g tc te D (fun H'=>Q (.ref D) H') (FY cap σ) (upd H1 D (.lst []))
def Inv.fpCh{Ac:LAObj}{H:Hp}{fp:List Addr}(hf:∀b∈fp,Oo X Ac H b):∀b∈fp,(b∈X.ex\/X.s₀.heap.objs.size<=b)/\b≠X.env.locals/\(∀x c,X.env.cells.lookup x=some c->c≠b)/\∀p∈X.pn++Ac,p.1≠b :=
 fun b hb=>let ⟨_,f1,_,f3,f4,f5⟩:=hf b hb;⟨f3,f1,f4,f5⟩
def Du{wi:TI}(hc:X.calm=true)(hcap:rQ X.env.scope X.N sc N' cap=true)(hi:PI X tg iter wi)(hg:∀C s₀ H₀ fp,PG (D7 X sc N' C s₀ H₀ fp) tg g)(ht:∀C s₀ H₀ fp,wR (D7 X sc N' C s₀ H₀ fp) ifs tc)
 (he:∀C s₀ H₀ fp,PE (D7 X sc N' C s₀ H₀ fp) elt te) (hs:∀x,foldedSetIterable iter X.env x=pure x:=by intro _;rfl):PE X (.ListComp elt [⟨tg,iter,ifs,0⟩] sc pos) (RX wi cap g tc te):=by
 intro Ac s σ H Q I h;have c:S9 X sc N' cap:=HG hcap;rw[eval_ListComp];refine wpAny_comprehension_free (use:=none) rfl hs (V4 (c.cells I.ok)) c.kind c.locals (Cz (hi Ac s σ H _ I h) fun v s1 h1=>Cz h1 fun itv s2 h2=>?_);obtain⟨it,fp,tn,J,H2,e,I2,T,st2,f2,hW⟩:=h2;subst e;refine V3 (RR:=fun acc C=>compPost (model X.prog X.w) X.A X.xe none (EP X Ac σ Q) acc C) (Q:=fun D H'=>Q (.ref D) H') c hc hg ht he I2 T st2 f2 hW ?_;intro D C s' H' m' hD hC hos hbare hun hok hn YK hCf q;refine⟨m',hn,fun h' Th=>?_⟩;have I3:Inv X Ac σ H' s':=I2.call' hos hun hok hbare (Inv.fpCh f2);have f3:Oo X Ac H' C:=I2.fpOk hC YK;obtain⟨_,k1,_,k3,k4,k5⟩:=f3;have I4:Inv X Ac σ H' { s' with heap:=h' }:=I3.turned (t':=s'.toks) (fun b o hb e=>(Th.2 b hb).trans e) YK k1 k3 k4 k5;exact⟨.ref D,H',I4,rfl,q⟩
def Hq{wi:TI}{i:Nat}{x:Str}{px spos:Pos}(hN:X.N.Nodup)(hi':X.N[i]?=some x)(hx:WH X.env.scope x)(hc:X.calm=true)(hcap:rQ X.env.scope X.N sc N' cap=true)(hi:PI X tg iter wi)
 (hg:∀C s₀ H₀ fp,PG (D7 X sc N' C s₀ H₀ fp) tg g) (ht:∀C s₀ H₀ fp,wR (D7 X sc N' C s₀ H₀ fp) ifs tc) (he:∀C s₀ H₀ fp,PE (D7 X sc N' C s₀ H₀ fp) elt te)
 (hsw:swapsWith (.ListComp elt [⟨tg,iter,ifs,0⟩] sc pos) (some (.Name x px)) spos.line X.env=pure true:=by rfl)
 (hs:∀x,foldedSetIterable iter X.env x=pure x:=by intro _;rfl) (hf:X.fn x=true\/X.env.scope.names.lookup x=some .local:=by first | exact .inl rfl | exact .inr rfl | assumption) :
 PS X (.Assign [.Name x px] (.ListComp elt [⟨tg,iter,ifs,0⟩] sc pos) spos) (tV (RX wi cap g tc te) (Yt i)):=by
 intro Ac s σ H D I h;have c:S9 X sc N' cap:=HG hcap;rw[exec_Assign_Name_used _ _ _ _ hsw];refine qa1 (qq7 (qa1 ?_));show wpAny _ X.A (do let _ ←comprehension (.ListComp elt [⟨tg,iter,ifs,0⟩] sc pos) sc X.env _ (newList []) false (eval iter X.env) (some (assign (.Name x px) X.env))) _ _ s
 refine qa1 (Cz (wpAny_comprehension_free (use:=some (assign (.Name x px) X.env)) (Q:=fun _ s'=>SP X Ac D .next s') rfl hs (V4 (c.cells I.ok)) c.kind c.locals
  (Cz (hi Ac s σ H _ I h) fun v s1 h1=>Cz h1 fun itv s2 h2=>?_)) fun _ s' hq=>qa6 (qa6 hq))
 obtain⟨it,fp,tn,J,H2,e,I2,T,st2,f2,hW⟩:=h2;subst e;refine V3 (RR:=fun acc C=>compPost (model X.prog X.w) X.A X.xe (some (assign (.Name x px) X.env)) (fun _ s'=>SP X Ac D .next s') acc C) (Q:=fun A H'=>Yt i (.ref A) σ H' D.nx) c hc hg ht he I2 T st2 f2 hW ?_;intro A C s' H' m' hD hC hos hbare hun hok hn YK hCf q;have I3:Inv X Ac σ H' s':=I2.call' hos hun hok hbare (Inv.fpCh f2);have f3:Oo X Ac H' C:=I2.fpOk hC YK;obtain⟨_,k1,_,k3,k4,k5⟩:=f3;show wpAny _ X.A (assign (.Name x px) X.env (.ref A)) _ _ s';refine wpAny_assign_Name (Xz I3 hN hi' hx (v:=.ref A) rfl (fun s'' I'' _z=>?_) hf);obtain⟨a,Th,ha⟩:=_z
 have hCa:C≠a:=by
  rcases ha with z | z
  . rw[z];exact k1
  . exact fun z'=>k4 x a z z'.symm
 refine⟨m',hn.sameBut Th hCa,fun h' Ae3=>?_⟩;have I4:Inv X Ac (σ.set i (some (.ref A))) H' { s'' with heap:=h' }:=I''.turned (t':=s''.toks) (fun b o hb e=>(Ae3.2 b hb).trans e) YK k1 k3 k4 k5;exact⟨_,H',I4,q⟩
end
section
variable{g:TG}{tc:TT}{te:TE}{D:Addr}{Q:Hp->Prop}{τ:St}{H:Hp}
def Yz{K:W.Frag}{a:Addr}{xs:List V}(Pv:Nat->List V->St->Hp->Prop)(h0:Pv 0 [] τ H)(hl:∀i ys τ H,i<=xs.length->Pv i ys τ H->SqL K H a xs)
 (hs:∀i x ys τ H,xs[i]?=some x->Pv i ys τ H->g x τ H fun τ2 H2=>tc τ2 H2 fun b H3=>if b=true then te τ2 H3 fun y H4=>H4 D=some (.lst ys)/\ys.length<sizeLine/\Pv (i+1) (ys++[y]) τ2 (upd H4 D (.lst (ys++[y]))) else Pv (i+1) ys τ2 H3)
 (hd:∀ys τ H,Pv xs.length ys τ H->Q H):Tm (WI K a) g tc te D Q τ H:=by
 refine⟨fun i m ys τ H=>m=xs.length-i/\i<=xs.length/\Pv i ys τ H,⟨xs.length,by simp,qb6 _,h0⟩,?_⟩;rintro i m ys τ H ⟨rfl,hi,p⟩;have q:=hl i ys τ H hi p;by_cases hlt:i<xs.length
 . refine .inr ⟨⟨xs,xs[i],q,by simp[hlt]⟩,Pv (i+1),fun ys' τ' H' p'=>⟨xs.length-(i+1),by omega,rfl,hlt,p'⟩,fun x H' y=>?_⟩;obtain⟨e,y⟩:=y;subst e;exact hs i x ys τ _ (y xs q) p
 . have e:i=xs.length:=by omega
   subst e;exact .inl ⟨⟨xs,q,qa8 _⟩,hd ys τ H p⟩
def OT{K:W.Frag}{a:Addr}{xs:List V}(Pv:Nat->List V->St->Hp->Prop)(h0:Pv 0 [] τ H)(hl:∀i ys τ H,i<=xs.length->Pv i ys τ H->Fw K H a xs)
 (hs:∀i x ys τ H,xs[i]?=some x->Pv i ys τ H->g x τ H fun τ2 H2=>tc τ2 H2 fun b H3=>if b=true then te τ2 H3 fun y H4=>H4 D=some (.lst ys)/\ys.length<sizeLine/\Pv (i+1) (ys++[y]) τ2 (upd H4 D (.lst (ys++[y]))) else Pv (i+1) ys τ2 H3)
 (hd:∀ys τ H,Pv xs.length ys τ H->Q H):Tm (wI K a) g tc te D Q τ H:=by
 refine⟨fun i m ys τ H=>m=xs.length-i/\i<=xs.length/\Pv i ys τ H,⟨xs.length,by simp,qb6 _,h0⟩,?_⟩;rintro i m ys τ H ⟨rfl,hi,p⟩;have q:=hl i ys τ H hi p;by_cases hlt:i<xs.length
 . refine .inr ⟨⟨xs,xs[i],q,by simp[hlt]⟩,Pv (i+1),fun ys' τ' H' p'=>⟨xs.length-(i+1),by omega,rfl,hlt,p'⟩,fun x H' y=>?_⟩;obtain⟨e,y⟩:=y;subst e;exact hs i x ys τ _ (y xs q) p
 . have e:i=xs.length:=by omega
   subst e;exact .inl ⟨⟨xs,q,qa8 _⟩,hd ys τ H p⟩
def Gj{lo:Int}{n:Nat}(Pv:Nat->List V->St->Hp->Prop)(h0:Pv 0 [] τ H)
 (hs:∀i ys τ H,i<n->Pv i ys τ H->g (.int (lo+i)) τ H fun τ2 H2=>tc τ2 H2 fun b H3=>if b=true then te τ2 H3 fun y H4=>H4 D=some (.lst ys)/\ys.length<sizeLine/\Pv (i+1) (ys++[y]) τ2 (upd H4 D (.lst (ys++[y]))) else Pv (i+1) ys τ2 H3)
 (hd:∀ys τ H,Pv n ys τ H->Q H):Tm (tE lo n) g tc te D Q τ H:=by
 refine⟨fun i m ys τ H=>m=n-i/\i<=n/\Pv i ys τ H,⟨n,by simp,qb6 _,h0⟩,?_⟩;rintro i m ys τ H ⟨rfl,hi,p⟩;by_cases hlt:i<n
 . refine .inr ⟨hlt,Pv (i+1),fun ys' τ' H' p'=>⟨n-(i+1),by omega,rfl,hlt,p'⟩,fun x H' y=>?_⟩;obtain⟨e,y⟩:=y;subst e y;exact hs i ys τ _ hlt p
 . have e:i=n:=by omega
   subst e;exact .inl ⟨qa8 _,hd ys τ H p⟩
end
end L2
namespace L2
open PySem PySem.Spec PyProof.Rows PySem.SeqAt
inductive D where
 | non | bl (b:Bool) | int (i:Int) | str (x:Str) | tup (ds:List D) | lst (ds:List D)
mutual
def Rep(K:W.Frag)(H:Hp):V->D->Prop
 | v,.non=>v=.non
 | v,.bl b=>v=.bl b
 | v,.int i=>v=.int i
 | v,.str x=>v=.str x
 | v,.tup ds=>∃a vs,v=.ref a/\Fw K H a vs/\Reps K H vs ds
 | v,.lst ds=>∃a vs,v=.ref a/\SqL K H a vs/\Reps K H vs ds
def Reps(K:W.Frag)(H:Hp):List V->List D->Prop
 | vs,[]=>vs=[]
 | vs,d::ds=>∃v r,vs=v::r/\Rep K H v d/\Reps K H r ds
end
mutual
def VC:D->Bool
 | .lst _=>false
 | .tup ds=>imms ds
 | _=>true
def imms:List D->Bool
 | []=>true
 | d::ds=>VC d&&imms ds
end
mutual
def dep:D->Nat
 | .lst ds=>deps ds+1
 | .tup ds=>deps ds+1
 | _=>0
def deps:List D->Nat
 | []=>0
 | d::ds=>max (dep d) (deps ds)
end
mutual
def eqD:D->D->Bool
 | .non,.non=>true
 | .bl a,.bl b=>a==b
 | .bl a,.int b=>(if a then 1 else 0)==b
 | .int a,.bl b=>a==(if b then 1 else 0)
 | .int a,.int b=>a==b
 | .str a,.str b=>a==b
 | .tup a,.tup b=>eqDs a b
 | .lst a,.lst b=>eqDs a b
 | _,_=>false
def eqDs:List D->List D->Bool
 | [],[]=>true
 | a::r,b::q=>eqD a b&&eqDs r q
 | _,_=>false
end
mutual
theorem Kp(d:D):eqD d d=true:=by
 cases d with
 | non=>rfl
 | bl b=>simp[eqD]
 | int b=>simp[eqD]
 | str b=>simp[eqD]
 | tup ds=>simp only[eqD];exact eqDs_refl ds
 | lst ds=>simp only[eqD];exact eqDs_refl ds
theorem eqDs_refl(ds:List D):eqDs ds ds=true:=by
 cases ds with
 | nil=>rfl
 | cons d r=>simp only[eqDs,qb4];exact⟨Kp d,eqDs_refl r⟩
end
theorem eqDs_len:∀{a b:List D},eqDs a b=true->a.length=b.length
 | [],[],_=>rfl
 | [],_::_,h=>by simp[eqDs]at h
 | _::_,[],h=>by simp[eqDs]at h
 | x::a,y::b,h=>by
   simp only[eqDs,qb4]at h;rw[qd9,qd9,eqDs_len h.2]
theorem Nj:∀(a b:List D),a.length=b.length->eqDs a b=(List.range a.length).all fun j=>match a[j]?,b[j]? with | some x,some y=>eqD x y | _,_=>true
 | [],[],_=>by simp[eqDs]
 | [],_::_,h=>by simp at h
 | _::_,[],h=>by simp at h
 | x::a,y::b,h=>by
   have h':a.length=b.length:=by simpa using h
   rw[qd9,List.range_succ_eq_map,List.all_cons,qt5];simp only[eqDs,Nj a b h']
   congr 1
structure Qr(H H':Hp):Prop where
 tup:∀b xs,H b=some (.tup xs)->H' b=some (.tup xs)
 frz:∀b o u,H b=some (.frz o u)->H' b=some (.frz o u)
section
variable{K:W.Frag}{H H' H1 H2:Hp}{a l p:Addr}{xs:List V}{o:HO}
def Ah.t(x:Ah H H'):Qr H H':=⟨fun b xs h=>x b _ h,fun b o u h=>x b _ h⟩
theorem Qr.lst(h:H l=some (.lst xs)):Qr H (upd H l o):=⟨fun b ys e=>by rw[Ai (Yg e h (by intro z;cases z))];exact e,fun b ob u e=>by rw[Ai (Yg e h (by intro z;cases z))];exact e⟩
def Ah.new(h:H l=none):Ah H (upd H l o):=fun b u e=>by rw[Ai (Ap e h)];exact e
def Ah.turn(x:Ah H H1)(h:H l=none):Ah H (upd H1 l o):=fun b u e=>by rw[Ai (Ap e h)];exact x b u e
def Fw.t(x:Qr H H')(h:Fw K H a xs):Fw K H' a xs:=by
 rcases h with(h|⟨o,h⟩) | h
 . exact .inl (.inl (x.tup _ _ h))
 . exact .inl (.inr ⟨o,x.frz _ _ _ h⟩)
 . exact .inr h
def Ah.seqT(x:Ah H H')(h:Fw K H a xs):Fw K H' a xs:=h.t x.t
mutual
theorem Rep.t(x:Qr H H'){v:V}{d:D}(hi:VC d=true)(h:Rep K H v d):Rep K H' v d:=by
 cases d with
 | non=>exact h
 | bl b=>exact h
 | int i=>exact h
 | str x=>exact h
 | tup ds =>
   obtain⟨a,vs,e,q,r⟩:=h;exact⟨a,vs,e,q.t x,Reps.t x (by simpa[VC]using hi) r⟩
 | lst ds=>simp[VC]at hi
theorem Reps.t(x:Qr H H'){vs:List V}{ds:List D}(hi:imms ds=true)(h:Reps K H vs ds):Reps K H' vs ds:=by
 cases ds with
 | nil=>exact h
 | cons d r =>
   obtain⟨v,q,e,h1,h2⟩:=h;simp only[imms,qb4]at hi;exact⟨v,q,e,Rep.t x hi.1 h1,Reps.t x hi.2 h2⟩
end
mutual
theorem Rep.same(x:Ah H H'){v:V}{d:D}(h:Rep K H v d):Rep K H' v d:=by
 cases d with
 | non=>exact h
 | bl b=>exact h
 | int i=>exact h
 | str x=>exact h
 | tup ds =>
   obtain⟨a,vs,e,q,r⟩:=h;exact⟨a,vs,e,x.seqT q,Reps.same x r⟩
 | lst ds =>
   obtain⟨a,vs,e,q,r⟩:=h;exact⟨a,vs,e,x.seq q,Reps.same x r⟩
theorem Reps.same(x:Ah H H'){vs:List V}{ds:List D}(h:Reps K H vs ds):Reps K H' vs ds:=by
 cases ds with
 | nil=>exact h
 | cons d r =>
   obtain⟨v,q,e,h1,h2⟩:=h;exact⟨v,q,e,Rep.same x h1,Reps.same x h2⟩
end
theorem Reps.length:∀{vs:List V}{ds:List D},Reps K H vs ds->vs.length=ds.length
 | vs,[],h=>by cases (show vs=[] from h);rfl
 | vs,d::ds,h=>by
   obtain⟨v,r,rfl,_,h2⟩:=h;rw[qd9,qd9,Reps.length h2]
theorem Reps.get:∀{vs:List V}{ds:List D}{i:Nat}{d:D},Reps K H vs ds->ds[i]?=some d->∃v,vs[i]?=some v/\Rep K H v d
 | vs,[],i,d,h,e=>by simp at e
 | vs,d0::ds,0,d,h,e=>by
   obtain⟨v,r,rfl,h1,_⟩:=h;simp only[qp2,Option.some.injEq]at e;subst e;exact⟨v,by simp,h1⟩
 | vs,d0::ds,i+1,d,h,e=>by
   obtain⟨v,r,rfl,_,h2⟩:=h;obtain⟨u,e1,e2⟩:=Reps.get (i:=i) h2 (by simpa using e);exact⟨u,by simpa using e1,e2⟩
def Reps.getV:∀{vs:List V}{ds:List D}{i:Nat}{v:V},Reps K H vs ds->vs[i]?=some v->∃d,ds[i]?=some d/\Rep K H v d:=fun {vs ds i v} h e=>by
 have hl:=h.length;have hi:i<vs.length:=(qa2.mp e).1;obtain⟨d,hd⟩:∃d,ds[i]?=some d:=⟨ds[i]'(by omega),by simp<;>omega⟩
 obtain⟨u,e1,e2⟩:=h.get hd;rw[e]at e1;cases e1;exact⟨d,hd,e2⟩
theorem Reps.append:∀{vs ws:List V}{ds es:List D},Reps K H vs ds->Reps K H ws es->Reps K H (vs++ws) (ds++es)
 | vs,ws,[],es,h,h'=>by cases (show vs=[] from h);exact h'
 | vs,ws,d::ds,es,h,h'=>by
   obtain⟨v,r,rfl,h1,h2⟩:=h;exact⟨v,r++ws,rfl,h1,Reps.append h2 h'⟩
def Reps.one{v:V}{d:D}(h:Rep K H v d):Reps K H [v] [d]:=⟨v,[],rfl,h,rfl⟩
def Reps.snoc{vs:List V}{ds:List D}{v:V}{d:D}(h:Reps K H vs ds)(h':Rep K H v d):Reps K H (vs++[v]) (ds++[d]):=h.append (.one h')
noncomputable def B7(ns:List Int):List D:=ns.map D.int
abbrev tI(ns:List Int):D:=.tup (B7 ns)
theorem Yo:∀ns:List Int,imms (B7 ns)=true
 | []=>rfl
 | n::ns=>by show(VC (.int n)&&imms (B7 ns))=true;rw[Yo ns];rfl
def NQ(ns:List Int):VC (tI ns)=true:=Yo ns
theorem Qe:∀xs:LLInt,imms (xs.map tI)=true
 | []=>rfl
 | x::xs=>by show(VC (tI x)&&imms (xs.map tI))=true;rw[Qe xs,NQ];rfl
theorem Yw:∀a b:List Int,eqDs (B7 a) (B7 b)=decide (a=b)
 | [],[]=>by simp[B7,eqDs]
 | [],_::_=>by simp[B7,eqDs]
 | _::_,[]=>by simp[B7,eqDs]
 | x::a,y::b=>by
   show(eqD (.int x) (.int y)&&eqDs (B7 a) (B7 b))=_;rw[Yw a b];simp only[eqD];by_cases e:x=y
   . subst e;by_cases e2:a=b<;>simp[e2]
   . simp[e]
def OE(a b:List Int):eqD (tI a) (tI b)=decide (a=b):=by simp only[eqD];exact Yw a b
theorem Gc:∀{vs:List V}{ns:List Int},Reps K H vs (B7 ns)↔vs=ns.map V.int
 | vs,[]=>Iff.rfl
 | vs,n::ns=>by
   constructor
   . rintro ⟨v,r,rfl,h1,h2⟩;have RJ:v=.int n:=h1;rw[RJ,Gc.mp h2];rfl
   . rintro rfl;exact⟨.int n,ns.map V.int,rfl,rfl,Gc.mpr rfl⟩
end
section
variable{X:Cx}{Ac:LAObj}{σ:St}{H:Hp}{s:Shared}
def GQ(I:Inv X Ac σ H s){a:Addr}{xs ys:List V}(h:Fw X.K H a xs)(h':SqL X.K H a ys):False:=by
 obtain⟨its,r,⟨o,e,c,n,d⟩,_⟩:=I.tuple h;obtain⟨its',r',⟨o',n',e',c',_,d'⟩,_⟩:=I.list h';rw[e]at e';cases e';rw[c]at c';have z:("tuple":String)="list":=by injection c'
 exact absurd z (by decide)
mutual
theorem Rep.inj(I:Inv X Ac σ H s){v:V}{d e:D}(h:Rep X.K H v d)(h':Rep X.K H v e):d=e:=by
 cases d with
 | non=>cases (show v=.non from h);cases e<;>first | rfl | (exfalso;first | (cases (show V.non=_ from h')) | (obtain⟨_,_,z,_⟩:=h';cases z))
 | bl b=>cases (show v=.bl b from h);cases e<;>first | (cases (show V.bl b=_ from h');rfl) | (exfalso;first | (cases (show V.bl b=_ from h')) | (obtain⟨_,_,z,_⟩:=h';cases z))
 | int b=>cases (show v=.int b from h);cases e<;>first | (cases (show V.int b=_ from h');rfl) | (exfalso;first | (cases (show V.int b=_ from h')) | (obtain⟨_,_,z,_⟩:=h';cases z))
 | str b=>cases (show v=.str b from h);cases e<;>first | (cases (show V.str b=_ from h');rfl) | (exfalso;first | (cases (show V.str b=_ from h')) | (obtain⟨_,_,z,_⟩:=h';cases z))
 | tup ds =>
   obtain⟨a,vs,rfl,q,r⟩:=h;cases e with
   | tup es =>
     obtain⟨b,ws,z,q',r'⟩:=h';cases z;have e1:=I.tuple_inj q q';subst e1;rw[Reps.inj I r r']
   | lst es =>
     obtain⟨b,ws,z,q',r'⟩:=h';cases z;exact(GQ I q q').elim
   | non=>cases (show V.ref a=_ from h')
   | bl _=>cases (show V.ref a=_ from h')
   | int _=>cases (show V.ref a=_ from h')
   | str _=>cases (show V.ref a=_ from h')
 | lst ds =>
   obtain⟨a,vs,rfl,q,r⟩:=h;cases e with
   | lst es =>
     obtain⟨b,ws,z,q',r'⟩:=h';cases z;have e1:=I.list_inj q q';subst e1;rw[Reps.inj I r r']
   | tup es =>
     obtain⟨b,ws,z,q',r'⟩:=h';cases z;exact(GQ I q' q).elim
   | non=>cases (show V.ref a=_ from h')
   | bl _=>cases (show V.ref a=_ from h')
   | int _=>cases (show V.ref a=_ from h')
   | str _=>cases (show V.ref a=_ from h')
theorem Reps.inj(I:Inv X Ac σ H s){vs:List V}{ds es:List D}(h:Reps X.K H vs ds)(h':Reps X.K H vs es):ds=es:=by
 cases ds with
 | nil =>
   cases (show vs=[] from h);cases es with
   | nil=>rfl
   | cons e es=>obtain⟨_,_,z,_⟩:=h';cases z
 | cons d ds =>
   obtain⟨v,r,rfl,h1,h2⟩:=h;cases es with
   | nil=>cases (show v::r=[] from h')
   | cons e es =>
     obtain⟨v',r',z,RJ,h2'⟩:=h';cases z;rw[Rep.inj I h1 RJ,Reps.inj I h2 h2']
end
def EqD(X:Cx)(H:Hp)(s:Shared)(d:D):Prop:=∀(A:Around) (x y:V) (u v:Value) (e:D),A.units+dep d<cLine->Rep X.K H x d->Rep X.K H y e->RelV x u->RelV y v->RcAt A s u v (eqD d e)/\EqAt A s u v (eqD d e)
def Z4(I:Inv X Ac σ H s){ds es:List D}{vs ws:List V}{us us':List Value}{A:Around}(hu:A.units+deps ds<cLine)(r:Reps X.K H vs ds)(r':Reps X.K H ws es)(rv:Vals vs us)(gK:Vals ws us')
 (ih:∀d∈ds,EqD X H s d) (hdm:∀d∈ds,dep d<=deps ds):∀j (h1:j<us.toArray.size) (h2:j<us'.toArray.size),EqAt A s us.toArray[j] us'.toArray[j] (match ds[j]?,es[j]? with | some x,some y=>eqD x y | _,_=>true):=by
 intro j h1 h2;have l1:=r.length;have l2:=r'.length;have l3:=rv.length;have l4:=gK.length;have RJ:j<us.length:=by simpa using h1
 have h2':j<us'.length:=by simpa using h2
 have e1:ds[j]?=some (ds[j]'(by omega)):=by simp<;>omega
 have e2:es[j]?=some (es[j]'(by omega)):=by simp<;>omega
 obtain⟨v,ev,rd⟩:=r.get e1;obtain⟨w,ew,re⟩:=r'.get e2;obtain⟨u,eu,ru⟩:=rv.get ev;obtain⟨u',eu',ru'⟩:=gK.get ew
 have f1:us.toArray[j]=u:=by
  have:us[j]?=some us[j]:=by simp
  rw[eu]at this;have:=(qd4 this).symm;simpa using this
 have f2:us'.toArray[j]=u':=by
  have:us'[j]?=some us'[j]:=by simp
  rw[eu']at this;have:=(qd4 this).symm;simpa using this
 rw[f1,f2,e1,e2];have hm:ds[j]'(by omega)∈ds:=qc7 _;exact(ih _ hm A v w u u' _ (by have:=hdm _ hm;omega) rd re ru ru').2
theorem N9:∀{ds:List D}{d:D},d∈ds->dep d<=deps ds
 | d0::ds,d,h=>by
   simp only[deps];rcases qc0.mp h with rfl | h
   . omega
   . have:=N9 h;omega
theorem N0{a b:List D}(h:¬a.length=b.length):eqDs a b=false:=by
 cases q:eqDs a b with
 | false=>rfl
 | true=>exact absurd (eqDs_len q) h
mutual
theorem FO(I:Inv X Ac σ H s)(d:D):EqD X H s d:=by
 intro A x y u v e hu hx hy rx ry;cases d with
 | non =>
   cases (show x=.non from hx);cases (show u=Value.none from rx);cases e with
   | non=>cases (show y=.non from hy);cases (show v=Value.none from ry);exact⟨.none_none,.same _⟩
   | bl b=>cases (show y=.bl b from hy);cases (show v=Value.bool b from ry);exact⟨.none_bool b,.none_bool b⟩
   | int i=>cases (show y=.int i from hy);obtain⟨t,rfl⟩:=ry;exact⟨.none_int i t,.none_int i t⟩
   | str z=>cases (show y=.str z from hy);obtain⟨t,rfl⟩:=ry;exact⟨.none_str z t,.none_str z t⟩
   | tup es=>obtain⟨a,vs,rfl,q,r⟩:=hy;cases ry;obtain⟨its,_,p,_⟩:=I.tuple q;exact⟨.none_tuple p (by omega),.none_tuple p (by omega)⟩
   | lst es=>obtain⟨a,vs,rfl,q,r⟩:=hy;cases ry;obtain⟨its,_,p,_⟩:=I.list q;exact⟨.none_list p.isList (by omega),.none_list p.isList (by omega)⟩
 | bl c =>
   cases (show x=.bl c from hx);cases (show u=Value.bool c from rx);cases e with
   | non=>cases (show y=.non from hy);cases (show v=Value.none from ry);exact⟨.bool_none c,.bool_none c⟩
   | bl b=>cases (show y=.bl b from hy);cases (show v=Value.bool b from ry);exact⟨.bool_bool c b,.bool_bool c b⟩
   | int i=>cases (show y=.int i from hy);obtain⟨t,rfl⟩:=ry;exact⟨.bool_int c i t,.bool_int c i t⟩
   | str z=>cases (show y=.str z from hy);obtain⟨t,rfl⟩:=ry;exact⟨.bool_str c z t,.bool_str c z t⟩
   | tup es=>obtain⟨a,vs,rfl,q,r⟩:=hy;cases ry;obtain⟨its,_,p,_⟩:=I.tuple q;exact⟨.bool_tuple c p (by omega),.bool_tuple c p (by omega)⟩
   | lst es=>obtain⟨a,vs,rfl,q,r⟩:=hy;cases ry;obtain⟨its,_,p,_⟩:=I.list q;exact⟨.bool_list c p.isList (by omega),.bool_list c p.isList (by omega)⟩
 | int c =>
   cases (show x=.int c from hx);obtain⟨t,rfl⟩:=rx;cases e with
   | non=>cases (show y=.non from hy);cases (show v=Value.none from ry);exact⟨.int_none c t,.int_none c t⟩
   | bl b=>cases (show y=.bl b from hy);cases (show v=Value.bool b from ry);exact⟨.int_bool c t b,.int_bool c t b⟩
   | int i=>cases (show y=.int i from hy);obtain⟨t',rfl⟩:=ry;exact⟨.int_int c t i t',.int_int c t i t'⟩
   | str z=>cases (show y=.str z from hy);obtain⟨t',rfl⟩:=ry;exact⟨.int_str c t z t',.int_str c t z t'⟩
   | tup es=>obtain⟨a,vs,rfl,q,r⟩:=hy;cases ry;obtain⟨its,_,p,_⟩:=I.tuple q;exact⟨.int_tuple c t p (by omega),.int_tuple c t p (by omega)⟩
   | lst es=>obtain⟨a,vs,rfl,q,r⟩:=hy;cases ry;obtain⟨its,_,p,_⟩:=I.list q;exact⟨.int_list c t p.isList (by omega),.int_list c t p.isList (by omega)⟩
 | str c =>
   cases (show x=.str c from hx);obtain⟨t,rfl⟩:=rx;cases e with
   | non=>cases (show y=.non from hy);cases (show v=Value.none from ry);exact⟨.str_none c t,.str_none c t⟩
   | bl b=>cases (show y=.bl b from hy);cases (show v=Value.bool b from ry);exact⟨.str_bool c t b,.str_bool c t b⟩
   | int i=>cases (show y=.int i from hy);obtain⟨t',rfl⟩:=ry;exact⟨.str_int c t i t',.str_int c t i t'⟩
   | str z=>cases (show y=.str z from hy);obtain⟨t',rfl⟩:=ry;exact⟨.str_str c t z t',.str_str c t z t'⟩
   | tup es=>obtain⟨a,vs,rfl,q,r⟩:=hy;cases ry;obtain⟨its,_,p,_⟩:=I.tuple q;exact⟨.str_tuple c t p (by omega),.str_tuple c t p (by omega)⟩
   | lst es=>obtain⟨a,vs,rfl,q,r⟩:=hy;cases ry;obtain⟨its,_,p,_⟩:=I.list q;exact⟨.str_list c t p.isList (by omega),.str_list c t p.isList (by omega)⟩
 | tup ds =>
   have hx':=hx;obtain⟨a,vs,rfl,q,r⟩:=hx;cases rx;obtain⟨its,rv,p,_⟩:=I.tuple q;have YB:A.units+1+deps ds<cLine:=by simp only[dep]at hu;omega
   cases e with
   | non=>cases (show y=.non from hy);cases (show v=Value.none from ry);exact⟨.tuple_none p (by omega),.tuple_none p (by omega)⟩
   | bl b=>cases (show y=.bl b from hy);cases (show v=Value.bool b from ry);exact⟨.tuple_bool b p (by omega),.tuple_bool b p (by omega)⟩
   | int i=>cases (show y=.int i from hy);obtain⟨t',rfl⟩:=ry;exact⟨.tuple_int i t' p (by omega),.tuple_int i t' p (by omega)⟩
   | str z=>cases (show y=.str z from hy);obtain⟨t',rfl⟩:=ry;exact⟨.tuple_str z t' p (by omega),.tuple_str z t' p (by omega)⟩
   | lst es=>obtain⟨b,ws,rfl,q',r'⟩:=hy;cases ry;obtain⟨its',_,p',_⟩:=I.list q';exact⟨.tuple_list p p'.isList (by omega),.tuple_list p p'.isList (by omega)⟩
   | tup es =>
     have hy':=hy;obtain⟨b,ws,rfl,q',r'⟩:=hy;cases ry;obtain⟨its',gK,p',_⟩:=I.tuple q'
     have main:RcAt A s (.ref a) (.ref b) (eqD (.tup ds) (.tup es)):=by
      have:=RcAt.tuples (A:=A) p p' (by omega) (Z4 I (A:=A.in1) (by show A.units+1+deps ds<cLine;omega) r r' rv gK (eqDs_ok I ds) fun d h=>N9 h);have l1:=r.length;have l2:=r'.length;have l3:=rv.length;have l4:=gK.length;have e1:its.toArray.size=ds.length:=by simp<;>omega
      have e2:its'.toArray.size=es.length:=by simp<;>omega
      rw[e1,e2]at this;simp only[eqD];by_cases hl:ds.length=es.length
      . rw[Nj ds es hl];rw[←hl,Nat.min_self]at this;simpa using this
      . rw[N0 hl];have z:(ds.length==es.length)=false:=by simpa using hl
        rw[z,Bool.and_false]at this;exact this
     refine⟨main,?_⟩;by_cases hab:a=b
     . subst hab;have e3:D.tup ds=D.tup es:=Rep.inj I hx' hy';rw[e3,Kp];exact .same _
     . exact .of_refs hab main
 | lst ds =>
   have hx':=hx;obtain⟨a,vs,rfl,q,r⟩:=hx;cases rx;obtain⟨its,rv,p,_⟩:=I.list q;have YB:A.units+1+deps ds<cLine:=by simp only[dep]at hu;omega
   cases e with
   | non=>cases (show y=.non from hy);cases (show v=Value.none from ry);exact⟨.list_none p.isList (by omega),.list_none p.isList (by omega)⟩
   | bl b=>cases (show y=.bl b from hy);cases (show v=Value.bool b from ry);exact⟨.list_bool b p.isList (by omega),.list_bool b p.isList (by omega)⟩
   | int i=>cases (show y=.int i from hy);obtain⟨t',rfl⟩:=ry;exact⟨.list_int i t' p.isList (by omega),.list_int i t' p.isList (by omega)⟩
   | str z=>cases (show y=.str z from hy);obtain⟨t',rfl⟩:=ry;exact⟨.list_str z t' p.isList (by omega),.list_str z t' p.isList (by omega)⟩
   | tup es=>obtain⟨b,ws,rfl,q',r'⟩:=hy;cases ry;obtain⟨its',_,p',_⟩:=I.tuple q';exact⟨.list_tuple p.isList p' (by omega),.list_tuple p.isList p' (by omega)⟩
   | lst es =>
     have hy':=hy;obtain⟨b,ws,rfl,q',r'⟩:=hy;cases ry;obtain⟨its',gK,p',_⟩:=I.list q'
     have main:RcAt A s (.ref a) (.ref b) (eqD (.lst ds) (.lst es)):=by
      have l1:=r.length;have l2:=r'.length;have l3:=rv.length;have l4:=gK.length;have e1:its.toArray.size=ds.length:=by simp<;>omega
      have e2:its'.toArray.size=es.length:=by simp<;>omega
      simp only[eqD];by_cases hl:ds.length=es.length
      . have:=RcAt.lists (A:=A) p.isList p'.isList (by omega) (by omega) (Z4 I (A:=A.in1) (by show A.units+1+deps ds<cLine;omega) r r' rv gK (eqDs_ok I ds) fun d h=>N9 h);rw[e1]at this;rw[Nj ds es hl];exact this
      . rw[N0 hl];exact RcAt.lists_lengths p.isList p'.isList (by simpa[e1,e2]using hl) (by omega)
     refine⟨main,?_⟩;by_cases hab:a=b
     . subst hab;have e3:D.lst ds=D.lst es:=Rep.inj I hx' hy';rw[e3,Kp];exact .same _
     . exact .of_refs hab main
theorem eqDs_ok(I:Inv X Ac σ H s)(ds:List D):∀d∈ds,EqD X H s d:=by
 cases ds with
 | nil=>exact fun _ h=>nomatch h
 | cons d0 r =>
   intro d h;rcases qc0.mp h with e | h
   . exact e▸FO I d0
   . exact eqDs_ok I r d h
end
def rEqD(K:W.Frag)(n:Nat):R2:=fun x y H Q=>∃d e,Rep K H x d/\Rep K H y e/\dep d<=n/\Q (.bl (eqD d e)) H
def UL{n:Nat}(hu:X.A.units+n<cLine):OpR X (compareOp .Eq) (rEqD X.K n):=by
 intro Ac s σ H x y v u Q I rx ry h;obtain⟨d,e,hd,he,hn,q⟩:=h;exact(FO I d X.A x y v u e (by omega) hd he rx ry).1 X.prog X.w X.xe _ ⟨.bl (eqD d e),H,I,rfl,q⟩
end
end L2
namespace L2
open PySem PySem.Spec PyProof.Rows PySem.SeqAt
section
variable{X:Cx}
def jY(X:Cx)(H:Hp)(d:D)(u:Value):Bool:=@decide (∃v e,RelV v u/\Rep X.K H v e/\eqD e d=true) (Classical.propDecidable _)
theorem x5{Ac:LAObj}{σ:St}{H:Hp}{s:Shared}(I:Inv X Ac σ H s){d e:D}{v:V}{u:Value}(r:RelV v u)(h:Rep X.K H v e):jY X H d u=eqD e d:=by
 cases q:eqD e d with
 | true=>exact @qd3 _ (Classical.propDecidable _) ⟨v,e,r,h,q⟩
 | false =>
   refine @qe3 _ (Classical.propDecidable _) ?_;rintro ⟨v',e',r',h',q'⟩;have:=r.inj r';subst this;rw[Rep.inj I h h']at q;rw[q]at q';cases q'
def R7{Ac:LAObj}{σ:St}{H:Hp}{s:Shared}(I:Inv X Ac σ H s){A:Around}{x:V}{v:Value}{d:D}{vs:List V}{us:List Value}{ds:List D}(hu:A.units+deps ds<cLine)(hx:Rep X.K H x d)(rx:RelV x v)
 (r:Reps X.K H vs ds) (rv:Vals vs us):∀y,y∈us.toArray->EqAt A s y v (jY X H d y):=by
 intro y hy;have hy':y∈us:=by simpa using hy
 obtain⟨i,hi⟩:=qi8 hy';have hlt:i<us.length:=(qa2.mp hi).1;have l1:=rv.length;obtain⟨w,hw⟩:∃w,vs[i]?=some w:=⟨vs[i]'(by omega),by simp<;>omega⟩
 obtain⟨u,hu2,ru⟩:=rv.get hw;rw[hi]at hu2;cases hu2;obtain⟨e,he,re⟩:=r.getV hw;rw[x5 I ru re];have hm:e∈ds:=qb5 he;exact(FO I e A w x y v d (by have:=N9 hm;omega) re hx ru rx).2
theorem AD{Ac:LAObj}{σ:St}{H:Hp}{s:Shared}(I:Inv X Ac σ H s){d:D}:∀{vs:List V}{us:List Value}{ds:List D},Reps X.K H vs ds->Vals vs us->us.any (jY X H d)=ds.any fun e=>eqD e d
 | vs,us,[],r,rv=>by
   cases (show vs=[] from r);cases rv;rfl
 | vs,us,e::ds,r,rv=>by
   obtain⟨v,q,rfl,h1,h2⟩:=r;cases rv with
   | cons r1 r2=>rw[qh8,qh8,x5 I r1 h1,AD I h2 r2]
def WE(K:W.Frag)(H:Hp)(y:V)(ds:List D):Prop:=Rep K H y (.lst ds)\/Rep K H y (.tup ds)
def QC(K:W.Frag)(n:Nat)(neg:Bool):R2:=fun x y H Q=>∃d ds,Rep K H x d/\WE K H y ds/\deps ds+1<=n/\Q (.bl (if neg then !(ds.any fun e=>eqD e d) else ds.any fun e=>eqD e d)) H
def uL{n:Nat}(hu:X.A.units+n<cLine):OpR X (compareOp .In) (QC X.K n false):=by
 intro Ac s σ H x y v u Q I rx ry h;obtain⟨d,ds,hx,hs,hn,q⟩:=h
 have fin:∀{us:List Value}{vs:List V},Reps X.K H vs ds->Vals vs us->EP X Ac σ Q (.bool (us.toArray.any (jY X H d))) s:=fun r rv =>
  ⟨.bl (ds.any fun e=>eqD e d),H,I,by show Value.bool _=Value.bool _;rw[List.any_toArray,AD I r rv],q⟩
 rcases hs with⟨a,vs,rfl,hq,r⟩|⟨a,vs,rfl,hq,r⟩
 . cases ry;obtain⟨its,rv,p,_⟩:=I.list hq;exact in_listAt (jY X H d) p.isList (R7 I (A:=X.A.in1) (by show X.A.units+1+deps ds<cLine;omega) hx rx r rv) (fin r rv)
 . cases ry;obtain⟨its,rv,p,_⟩:=I.tuple hq;exact in_tupleAt (jY X H d) p (R7 I (A:=X.A.in1) (by show X.A.units+1+deps ds<cLine;omega) hx rx r rv) (fin r rv)
def IV{n:Nat}(hu:X.A.units+n<cLine):OpR X (compareOp .NotIn) (QC X.K n true):=by
 intro Ac s σ H x y v u Q I rx ry h;obtain⟨d,ds,hx,hs,hn,q⟩:=h
 have fin:∀{us:List Value}{vs:List V},Reps X.K H vs ds->Vals vs us->EP X Ac σ Q (.bool (!us.toArray.any (jY X H d))) s:=fun r rv =>
  ⟨.bl (!(ds.any fun e=>eqD e d)),H,I,by show Value.bool _=Value.bool _;rw[List.any_toArray,AD I r rv],q⟩
 rcases hs with⟨a,vs,rfl,hq,r⟩|⟨a,vs,rfl,hq,r⟩
 . cases ry;obtain⟨its,rv,p,_⟩:=I.list hq;exact notIn_listAt (jY X H d) p.isList (R7 I (A:=X.A.in1) (by show X.A.units+1+deps ds<cLine;omega) hx rx r rv) (fin r rv)
 . cases ry;obtain⟨its,rv,p,_⟩:=I.tuple hq;exact notIn_tupleAt (jY X H d) p (R7 I (A:=X.A.in1) (by show X.A.units+1+deps ds<cLine;omega) hx rx r rv) (fin r rv)
def lW(K:W.Frag)(n:Nat):V->List V->Hp->VK->Prop:=fun x vs H Q=>∃ds y d j,vs=[y]/\Rep K H x (.lst ds)/\Rep K H y d/\deps ds+1<=n/\ds.findIdx? (fun e=>eqD e d)=some j/\Q (.int (j:Nat)) H
def NB{n:Nat}(hu:X.A.units+n<cLine):MtR X "list.index" (lW X.K n):=by
 intro Ac s σ H x vs v us Q I rx rv h;obtain⟨ds,y,d,j,rfl,⟨a,ws,rfl,hq,r⟩,hy,hn,hj,q⟩:=h;cases rx;obtain⟨u,rfl,ru⟩:=rv.one;obtain⟨its,rw',p,hz⟩:=I.list hq;have l1:=r.length;have l2:=rw'.length;obtain⟨hlt,hit,hno⟩:=List.findIdx?_eq_some_iff_getElem.mp hj
 have at':∀m (hm:m<its.toArray.size) (hm':m<ds.length),jY X H d its.toArray[m]=eqD ds[m] d:=fun m hm hm'=>by
  obtain⟨w,hw,re⟩:=r.get (i:=m) (d:=ds[m]) (by simp);obtain⟨u',YB,ru'⟩:=rw'.get hw
  have e1:its.toArray[m]=u':=by
   have hm2:m<its.length:=by simpa using hm
   have:its[m]?=some its[m]:=by simp
   rw[YB]at this;have:=(qd4 this).symm;simpa using this
  rw[e1];exact x5 I ru' re
 obtain⟨o,k,ho,hc,hdn,hd⟩:=id p;obtain⟨cls,dd,data,sl⟩:=o;simp only at hc hdn hd;subst hc hdn hd;have hsz:ds.length<=sizeLine:=by omega
 have big:(sizeLine:Nat)<2 ^ 62:=by rw[sizeLine_eq];decide
 refine call_meets PySem.F.slot_list_index ⟨_,ho,rfl⟩ PySem.F.entry_list_index (PySem.F.args_list_index_2 _ _)
  (list_indexAt a its.toArray k none sl u (jY X H d) j (by simp<;>omega) (by omega) ?_ ?_) ⟨ho,R7 I (A:=X.A.in1) (by show X.A.units+1+deps ds<cLine;omega) hy ru r rw',?_⟩
 . rw[at' j (by simp<;>omega) hlt];exact hit
 . intro m hm hmj;rw[at' m hm (by omega)];have:=hno m hmj;simpa using this
 . exact⟨.int (j:Nat),H,I.tok _,⟨_,rfl⟩,q⟩
def LV(K:W.Frag)(n:Nat):R2:=fun x y H Q=>∃d e,Rep K H x d/\Rep K H y e/\dep d<=n/\Q (.bl (!eqD d e)) H
theorem UK{n:Nat}(hu:X.A.units+n<cLine):OpR X (compareOp .NotEq) (LV X.K n):=by
 intro Ac s σ H x y v u Q I rx ry h;obtain⟨d,e,hd,he,hn,q⟩:=h;have fin:EP X Ac σ Q (.bool (!eqD d e)) s:=⟨.bl (!eqD d e),H,I,rfl,q⟩
 have go:∀{k:Bool},RcNeAt X.A s v u k->k=(!eqD d e)->wpAny (model X.prog X.w) X.A (compareOp .NotEq v u) (EP X Ac σ Q) X.xe s:=fun h1 h2=>by
  subst h2;exact h1 X.prog X.w X.xe _ fin
 cases d with
 | non =>
   cases (show x=.non from hd);cases (show v=Value.none from rx);cases e with
   | non=>cases (show y=.non from he);cases (show u=Value.none from ry);exact go .none_none rfl
   | bl b=>cases (show y=.bl b from he);cases (show u=Value.bool b from ry);exact go (.none_bool b) rfl
   | int i=>cases (show y=.int i from he);obtain⟨t,rfl⟩:=ry;exact go (.none_int i t) rfl
   | str z=>cases (show y=.str z from he);obtain⟨t,rfl⟩:=ry;exact go (.none_str z t) rfl
   | tup es=>obtain⟨a,vs,rfl,q,r⟩:=he;cases ry;obtain⟨its,_,p,_⟩:=I.tuple q;exact go (.none_tuple p (by omega)) rfl
   | lst es=>obtain⟨a,vs,rfl,q,r⟩:=he;cases ry;obtain⟨its,_,p,_⟩:=I.list q;exact go (.none_list p.isList (by omega)) rfl
 | bl c =>
   cases (show x=.bl c from hd);cases (show v=Value.bool c from rx);cases e with
   | non=>cases (show y=.non from he);cases (show u=Value.none from ry);exact go (.bool_none c) rfl
   | bl b=>cases (show y=.bl b from he);cases (show u=Value.bool b from ry);exact go (.bool_bool c b) rfl
   | int i=>cases (show y=.int i from he);obtain⟨t,rfl⟩:=ry;exact go (.bool_int c i t) rfl
   | str z=>cases (show y=.str z from he);obtain⟨t,rfl⟩:=ry;exact go (.bool_str c z t) rfl
   | tup es=>obtain⟨a,vs,rfl,q,r⟩:=he;cases ry;obtain⟨its,_,p,_⟩:=I.tuple q;exact go (.bool_tuple c p (by omega)) rfl
   | lst es=>obtain⟨a,vs,rfl,q,r⟩:=he;cases ry;obtain⟨its,_,p,_⟩:=I.list q;exact go (.bool_list c p.isList (by omega)) rfl
 | int c =>
   cases (show x=.int c from hd);obtain⟨t,rfl⟩:=rx;cases e with
   | non=>cases (show y=.non from he);cases (show u=Value.none from ry);exact go (.int_none c t) rfl
   | bl b=>cases (show y=.bl b from he);cases (show u=Value.bool b from ry);exact go (.int_bool c t b) rfl
   | int i=>cases (show y=.int i from he);obtain⟨t',rfl⟩:=ry;exact go (.int_int c t i t') rfl
   | str z=>cases (show y=.str z from he);obtain⟨t',rfl⟩:=ry;exact go (.int_str c t z t') rfl
   | tup es=>obtain⟨a,vs,rfl,q,r⟩:=he;cases ry;obtain⟨its,_,p,_⟩:=I.tuple q;exact go (.int_tuple c t p (by omega)) rfl
   | lst es=>obtain⟨a,vs,rfl,q,r⟩:=he;cases ry;obtain⟨its,_,p,_⟩:=I.list q;exact go (.int_list c t p.isList (by omega)) rfl
 | str c =>
   cases (show x=.str c from hd);obtain⟨t,rfl⟩:=rx;cases e with
   | non=>cases (show y=.non from he);cases (show u=Value.none from ry);exact go (.str_none c t) rfl
   | bl b=>cases (show y=.bl b from he);cases (show u=Value.bool b from ry);exact go (.str_bool c t b) rfl
   | int i=>cases (show y=.int i from he);obtain⟨t',rfl⟩:=ry;exact go (.str_int c t i t') rfl
   | str z=>cases (show y=.str z from he);obtain⟨t',rfl⟩:=ry;exact go (.str_str c t z t') rfl
   | tup es=>obtain⟨a,vs,rfl,q,r⟩:=he;cases ry;obtain⟨its,_,p,_⟩:=I.tuple q;exact go (.str_tuple c t p (by omega)) rfl
   | lst es=>obtain⟨a,vs,rfl,q,r⟩:=he;cases ry;obtain⟨its,_,p,_⟩:=I.list q;exact go (.str_list c t p.isList (by omega)) rfl
 | tup ds =>
   obtain⟨a,vs,rfl,q1,r⟩:=hd;cases rx;obtain⟨its,rv,p,_⟩:=I.tuple q1;have YB:X.A.units+1+deps ds<cLine:=by simp only[dep]at hn;omega
   cases e with
   | non=>cases (show y=.non from he);cases (show u=Value.none from ry);exact go (.tuple_none p (by omega)) rfl
   | bl b=>cases (show y=.bl b from he);cases (show u=Value.bool b from ry);exact go (.tuple_bool b p (by omega)) rfl
   | int i=>cases (show y=.int i from he);obtain⟨t',rfl⟩:=ry;exact go (.tuple_int i t' p (by omega)) rfl
   | str z=>cases (show y=.str z from he);obtain⟨t',rfl⟩:=ry;exact go (.tuple_str z t' p (by omega)) rfl
   | lst es=>obtain⟨b,ws,rfl,q',r'⟩:=he;cases ry;obtain⟨its',_,p',_⟩:=I.list q';exact go (.tuple_list p p'.isList (by omega)) rfl
   | tup es =>
     obtain⟨b,ws,rfl,q',r'⟩:=he;cases ry;obtain⟨its',gK,p',_⟩:=I.tuple q';refine go (RcNeAt.tuples p p' (by omega) (Z4 I (A:=X.A.in1) (by show X.A.units+1+deps ds<cLine;omega) r r' rv gK (eqDs_ok I ds) fun d h=>N9 h)) ?_;have l1:=r.length;have l2:=r'.length;have l3:=rv.length;have l4:=gK.length;have e1:its.toArray.size=ds.length:=by simp<;>omega
     have e2:its'.toArray.size=es.length:=by simp<;>omega
     rw[e1,e2];simp only[eqD];by_cases hl:ds.length=es.length
     . rw[Nj ds es hl,←hl,Nat.min_self];simp
     . rw[N0 hl];have z:(ds.length==es.length)=false:=by simpa using hl
       rw[z,Bool.and_false]
 | lst ds =>
   obtain⟨a,vs,rfl,q1,r⟩:=hd;cases rx;obtain⟨its,rv,p,_⟩:=I.list q1;have YB:X.A.units+1+deps ds<cLine:=by simp only[dep]at hn;omega
   cases e with
   | non=>cases (show y=.non from he);cases (show u=Value.none from ry);exact go (.list_none p.isList (by omega)) rfl
   | bl b=>cases (show y=.bl b from he);cases (show u=Value.bool b from ry);exact go (.list_bool b p.isList (by omega)) rfl
   | int i=>cases (show y=.int i from he);obtain⟨t',rfl⟩:=ry;exact go (.list_int i t' p.isList (by omega)) rfl
   | str z=>cases (show y=.str z from he);obtain⟨t',rfl⟩:=ry;exact go (.list_str z t' p.isList (by omega)) rfl
   | tup es=>obtain⟨b,ws,rfl,q',r'⟩:=he;cases ry;obtain⟨its',_,p',_⟩:=I.tuple q';exact go (.list_tuple p.isList p' (by omega)) rfl
   | lst es =>
     obtain⟨b,ws,rfl,q',r'⟩:=he;cases ry;obtain⟨its',gK,p',_⟩:=I.list q';have l1:=r.length;have l2:=r'.length;have l3:=rv.length;have l4:=gK.length;have e1:its.toArray.size=ds.length:=by simp<;>omega
     have e2:its'.toArray.size=es.length:=by simp<;>omega
     by_cases hl:ds.length=es.length
     . refine go (RcNeAt.lists p.isList p'.isList (by omega) (by omega) (Z4 I (A:=X.A.in1) (by show X.A.units+1+deps ds<cLine;omega) r r' rv gK (eqDs_ok I ds) fun d h=>N9 h)) ?_;rw[e1];simp only[eqD];rw[Nj ds es hl]
     . refine go (RcNeAt.lists_lengths p.isList p'.isList (by simpa[e1,e2]using hl) (by omega)) ?_;simp only[eqD];rw[N0 hl];rfl
noncomputable def FJ(n:String):D->Bool
 | .non=>false
 | .bl _=>n=="int" || n=="bool"
 | .int _=>n=="int"
 | .str _=>n=="str"
 | .tup _=>n=="tuple"
 | .lst _=>n=="list"
def tyD:D->String
 | .non=>"NoneType"
 | .bl _=>"bool"
 | .int _=>"int"
 | .str _=>"str"
 | .tup _=>"tuple"
 | .lst _=>"list"
def NI{K:W.Frag}{n:String}{d:D}(hn:n="int"\/n="bool"\/n="str"\/n="tuple"\/n="list"\/n="dict"):PySem.W.kitOne K (.type (tyD d)) (.type n)=some (FJ n d):=by
 rcases hn with rfl | rfl | rfl | rfl | rfl | rfl<;>cases d<;>(unfold PySem.W.kitOne PySem.W.kitCls PySem.W.subIn tyD FJ;first | rfl | decide +kernel)
theorem No:CallR X (.builtin "isinstance") (fun xs H Q=>∃x n d,xs=[x,.ty n]/\(n="int"\/n="bool"\/n="str"\/n="tuple"\/n="list"\/n="dict")/\Rep X.K H x d/\Q (.bl (FJ n d)) H):=by
 intro Ac s σ H xs us Q I r h;obtain⟨x,n,d,rfl,hn,hx,q⟩:=h;obtain⟨u,v,rfl,rx,rt⟩:=Op r;cases rt;have k:=NI (K:=X.K) (d:=d) hn;have fin:∀tk,EP X Ac σ Q (.bool (FJ n d)) { s with toks:=tk }:=fun tk=>⟨.bl (FJ n d),H,I.tok tk,rfl,q⟩
 cases d with
 | non=>cases (show x=.non from hx);cases (show u=Value.none from rx);exact qk0 PySem.W.kitx_none I.kIn True.intro k (fun z=>nomatch z) fin
 | bl b=>cases (show x=.bl b from hx);cases (show u=Value.bool b from rx);exact qk0 PySem.W.kitx_bool I.kIn True.intro k (fun z=>nomatch z) fin
 | int b=>cases (show x=.int b from hx);obtain⟨t,rfl⟩:=rx;exact qk0 PySem.W.kitx_int I.kIn True.intro k (fun z=>nomatch z) fin
 | str b=>cases (show x=.str b from hx);obtain⟨t,rfl⟩:=rx;exact qk0 PySem.W.kitx_str I.kIn True.intro k (fun z=>nomatch z) fin
 | tup ds =>
   obtain⟨a,vs,rfl,hq,_⟩:=hx;cases rx;obtain⟨its,_,⟨o,e,c,_⟩,_⟩:=I.tuple hq;exact qk0 PySem.W.kitx_tuple I.kIn ⟨o,e,c⟩ k (fun z=>nomatch z) fin
 | lst ds =>
   obtain⟨a,vs,rfl,hq,_⟩:=hx;cases rx;obtain⟨its,_,⟨o,_,e,c,_⟩,_⟩:=I.list hq;exact qk0 PySem.W.kitx_list I.kIn ⟨o,e,c⟩ k (fun z=>nomatch z) fin
def SA(K:W.Frag):R2:=fun x y H Q=>∃a b xs ys,x=.ref a/\y=.ref b/\Fw K H a xs/\Fw K H b ys/\xs.length+ys.length<=sizeLine/\∀p H',Ah H H'->Fw K H' p (xs++ys)->Q (.ref p) H'
def QJ:OpR X (binaryOp .Add) (SA X.K):=by
 intro Ac s σ H x y v u Q I rx ry h;obtain⟨a,b,xs,ys,rfl,rfl,ha,hb,hz,q⟩:=h;by_cases hx:xs=[]
 . subst hx;cases rx;cases ry;obtain⟨its,r1,p1,_⟩:=I.tuple ha;obtain⟨its2,r2,p2,_⟩:=I.tuple hb;cases r1;obtain⟨⟨cls,dd,data,sl⟩,ho,hc,n,hd⟩:=id p1;obtain⟨⟨yX,dd2,data2,sl2⟩,ho2,hc2,n2,hd2⟩:=id p2;simp only at hc hd hc2 hd2;subst hc hd hc2 hd2
   exact concat_meets ⟨_,ho,rfl⟩ ⟨_,ho2,rfl⟩ noFill_tuple_add seq_tuple_add qp7 qo9 (qo4 _ _)
    (tuple_addW0 a b _ _ n n2 dd dd2 sl sl2 (by simp)) ⟨ho,ho2,⟨.ref b,H,I,rfl,q b H (Ah.refl H) (by simpa using hb)⟩⟩
 . refine qK Ac s σ H (.ref a) (.ref b) v u Q I rx ry ⟨a,b,xs,ys,rfl,rfl,ha,hb,hx,hz,fun e=>?_,fun e p hp=>?_⟩
   . subst e;exact q a H (Ah.refl H) (by simpa using ha)
   . exact q p _ (Ah.new hp) (.of Ab)
def rZ(K:W.Frag):V->Option Int->Option Int->Hp->VK->Prop:=fun x lo hi H Q=>∃a xs,x=.ref a/\Fw K H a xs ∧
 ¬(HT.sIx xs.length 0 lo=0/\HT.sIx xs.length xs.length hi=xs.length)/\∀p H',Ah H H'->Fw K H' p (Qh xs lo hi)->Q (.ref p) H'
def PV:WQ X (rZ X.K):=by
 intro Ac s σ H x v vl vu lo hi sl Q I rx hs pl pu h;obtain⟨a,xs,rfl,hx,hw,q⟩:=h;exact TX Ac s σ H (.ref a) v vl vu lo hi sl Q I rx hs pl pu ⟨a,xs,rfl,hx,hw,fun p hp=>q p _ (Ah.new hp) (.of Ab)⟩
def LW(K:W.Frag):R2:=fun x y H Q=>∃l b xs zs,x=.ref l/\y=.ref b/\SqL K H l xs/\SqL K H b zs/\xs.length+zs.length<=sizeLine/\∀p,H p=none->Q (.ref p) (upd H p (.lst (xs++zs)))
def mL:OpR X (binaryOp .Add) (LW X.K):=by
 intro Ac s σ H x y v u Q I rx ry h;obtain⟨l,b,xs,zs,rfl,rfl,hl,hb,hz,q⟩:=h;cases rx;cases ry;obtain⟨its,r1,p1,_⟩:=I.list hl;obtain⟨its2,r2,p2,_⟩:=I.list hb;obtain⟨⟨cls,dd,data,sl⟩,n,ho,hc,hdd,hd⟩:=id p1;obtain⟨⟨yX,dd2,data2,sl2⟩,n2,ho2,hc2,hdd2,hd2⟩:=id p2;simp only at hc hd hc2 hd2;subst hc hd hc2 hd2
 refine concat_meets ⟨_,ho,rfl⟩ ⟨_,ho2,rfl⟩ noFill_list_add seq_list_add PySem.F.slot_list_add PySem.F.entry_list_add (PySem.F.args_list_add_2 _ _)
  (list_addW l b its.toArray its2.toArray n n2 dd dd2 sl sl2 (by rw[qc1,qc1,←r1.length,←r2.length];exact hz)) ⟨ho,ho2,?_⟩
 rw[show its.toArray++its2.toArray=(its++its2).toArray by simp];exact⟨.ref s.heap.objs.size,_,I.lnew (t':=s.toks) (r1.append r2) (by rw[qd1];exact hz),rfl,q _ I.fresh⟩
def KS(hc:X.calm=true):CallR X (.builtin "all") (fun xs H Q=>∃(p:Addr) (bs:List Bool),xs=[.ref p]/\SqL X.K H p (bs.map V.bl)/\Q (.bl (bs.all id)) H):=by
 intro Ac s σ H xs us Q I r h;obtain⟨p,bs,rfl,hq,q⟩:=h;obtain⟨u,rfl,ru⟩:=L5 r;cases ru;obtain⟨its,rv,pl,hz⟩:=I.list hq;have hh:X.A.handled=none:=I.ok.hd hc
 have rel:∀(i:Nat) (v:Value),its.toArray[i]?=some v->∃b,bs[i]?=some b/\v=.bool b:=fun i v e=>by
  have e':its[i]?=some v:=by simpa using e
  have hlt:i<its.length:=(qa2.mp e').1;have l1:=rv.length;rw[qa3]at l1;have hb:bs[i]?=some (bs[i]'(by omega)):=by simp<;>omega
  obtain⟨u,hu,ru⟩:=rv.get (i:=i) (x:=V.bl (bs[i]'(by omega))) (by rw[qa7,hb];rfl);rw[e']at hu;cases hu;exact⟨_,hb,ru⟩
 refine call_all_walk (ql3 pl.isList ?_);refine⟨s.heap.objs.size,[s.heap.objs.size,p],[s.heap.objs.size],its.toArray.size,_,_,fun i=>(bs[i]?).getD true,rfl,Walks.list (show X.A.in1.handled=none from hh) s.heap.objs.size p ?_ its.toArray,⟨⟨_,qb3 _ rfl,rfl,rfl⟩,?_⟩,?_,fun h' tk k=>?_⟩
 . obtain⟨o,_,ho,_⟩:=pl;exact qb8 (qa9 ho)
 . exact pl.isList.at fun o e=>qa4 _ e
 . intro i v s' Q' E' hv hQ;obtain⟨b,hb,rfl⟩:=rel i v hv;dsimp only at hQ;rw[hb]at hQ;exact qg8 hQ
 . have e:(List.range its.toArray.size).all (fun i=>(bs[i]?).getD true)=bs.all id:=by
    have l1:=rv.length;rw[qa3]at l1;rw[qc1,←l1];rw[qh4,qc8,qc8];constructor
    . intro hx b hb;obtain⟨i,hi⟩:=qi8 hb;have:=hx i (qe6.mpr (qa2.mp hi).1);rw[hi]at this;exact this
    . intro hx i hi;have hlt:=qe6.mp hi;have hb:bs[i]?=some bs[i]:=by simp
      rw[hb];exact hx _ (qc7 _)
   rw[e];have I1:Inv X Ac σ H { s with heap:=h',toks:=tk }:=I.kept (fun b o e=>k b o (by simp;exact qb8 (qa9 e)) (qa4 _ e));exact⟨.bl (bs.all id),H,I1,rfl,q⟩
end
structure Has(P:Program)(w:World)(K:W.Frag)(mg:Str->Option Value)(base:Heap)(x:Str)(ps:List Str)(k:Nat)(sp:Sp):Prop where
 ex:∃(f:Addr) (fd:FuncData),mg x=some (.ref f)/\W.keepIn K (.ref f)=true/\Nt K fd ps []/\B4 P w K mg base Fv k f fd ps sp
section
variable{X:Cx}{x:Str}{ps:List Str}{j k:Nat}{sp:Sp}{p pos:Pos}{e:Expr}{es:List Expr}{t:TA}
def Ao(h:Has X.prog X.w X.K X.mg X.base x ps j sp)(hr:E5 k X.A)(ha:PA X (e::es) t)(hg:Gl X x:=by rfl)(hk:j<=k:=by decide)(hdb:(x==("__debug__":Str))=false:=by decide)
 (he:starEach (e::es) X.env=(false,eval e X.env)::starEach es X.env:=by rfl) (hpl:(backTo pos (starEach es X.env)).any (·.1)=false:=by rfl):PE X (.Call (.Name x p) (e::es) [] pos) (tCall sp [] E0 t):=by
 obtain⟨f,fd,h1,h2,h3,h4⟩:=h.ex;exact QH h4 (hr.mono hk) hg h1 h2 h3 .nil xM ha hdb he hpl
end
def boot_intT:bootBuiltins "int"=some (.type "int"):=by decide +kernel
def Wf:bootBuiltins "bool"=some (.type "bool"):=by decide +kernel
def Fi:bootBuiltins "tuple"=some (.type "tuple"):=by decide +kernel
def Pj:bootBuiltins "list"=some (.type "list"):=by decide +kernel
def Dl:bootBuiltins "dict"=some (.type "dict"):=by decide +kernel
def Sg:bootBuiltins "max"=some (.builtin "max"):=by decide +kernel
def kT:bootBuiltins "min"=some (.builtin "min"):=by decide +kernel
def Zb:bootBuiltins "all"=some (.builtin "all"):=by decide +kernel
def A7:bootBuiltins "isinstance"=some (.builtin "isinstance"):=by decide +kernel
end L2
namespace L2
open PySem PySem.Spec PyProof.Rows
section
variable{X:Cx}{K:W.Frag}{tg l:Expr}{tl:TE}{n:Nat}
def M4(hK:X.K=K:=by rfl):OpR X (binaryOp .Add) (SA K):=by subst hK;exact QJ
def Kk(hK:X.K=K:=by rfl):OpR X (binaryOp .Add) (LW K):=by subst hK;exact mL
def Iu(hK:X.K=K:=by rfl):WQ X (rZ K):=by subst hK;exact PV
def BQ(hK:X.K=K:=by rfl):WQ X (xG K):=by subst hK;exact pX
def Bj(hK:X.K=K:=by rfl):YZ X (xH K):=by subst hK;exact qX
def Bx(hK:X.K=K:=by rfl):YZ X (uC K):=by subst hK;exact vB
def Ar(hK:X.K=K:=by rfl):CallR X (.builtin "len") (fun xs H Q=>∃p ys,xs=[.ref p]/\(SqL K H p ys\/Fw K H p ys)/\Q (.int ys.length) H):=by subst hK;exact aD
def Ou(hK:X.K=K:=by rfl):CallR X (.type "list") (fun xs H Q=>∃p ys,xs=[.ref p]/\(SqL K H p ys\/Fw K H p ys)/\∀l,H l=none->Q (.ref l) (upd H l (.lst ys))):=by subst hK;exact aC
def Iw(hK:X.K=K:=by rfl):CallR X (.type "tuple") (fun xs H Q=>∃p ys,xs=[.ref p]/\((SqL K H p ys/\∀l,H l=none->Q (.ref l) (upd H l (.tup ys)))\/(Fw K H p ys/\Q (.ref p) H))):=by subst hK;exact Xr
def Fq(hK:X.K=K:=by rfl):CallR X (.builtin "isinstance") (fun xs H Q=>∃x n d,xs=[x,.ty n]/\(n="int"\/n="bool"\/n="str"\/n="tuple"\/n="list"\/n="dict")/\Rep K H x d/\Q (.bl (FJ n d)) H):=by subst hK;exact No
def Vb(hc:X.calm=true)(hK:X.K=K:=by rfl):CallR X (.builtin "all") (fun xs H Q=>∃(p:Addr) (bs:List Bool),xs=[.ref p]/\SqL K H p (bs.map V.bl)/\Q (.bl (bs.all id)) H):=by subst hK;exact KS hc
def GS(hu:X.A.units+n<cLine)(hK:X.K=K:=by rfl):OpR X (compareOp .In) (QC K n false):=by subst hK;exact uL hu
def Ge(hu:X.A.units+n<cLine)(hK:X.K=K:=by rfl):OpR X (compareOp .NotIn) (QC K n true):=by subst hK;exact IV hu
def gT(hu:X.A.units+n<cLine)(hK:X.K=K:=by rfl):OpR X (compareOp .Eq) (rEqD K n):=by subst hK;exact UL hu
def gS(hu:X.A.units+n<cLine)(hK:X.K=K:=by rfl):OpR X (compareOp .NotEq) (LV K n):=by subst hK;exact UK hu
def jN(hu:X.A.units+n<cLine)(hK:X.K=K:=by rfl):MtR X "list.index" (lW K n):=by subst hK;exact NB hu
def Co(hl:PE X l tl)(hK:X.K=K:=by rfl):PI X tg l (SM K tl):=by subst hK;exact QF hl
def N7(hl:PE X l tl)(hK:X.K=K:=by rfl):PI X tg l (XY K tl):=by subst hK;exact UG hl
variable{o e:Expr}{es:List Expr}{to:TE}{t:TA}{name:Str}{apos cpos:Pos}{T id:String}{r:V->List V->Hp->VK->Prop}
def Gd(pa:PlainAttrs T)(slot:Slot T name id)(hty:typeOf (.builtin id)=pure (.type "method_descriptor"))(hm:MtR X id r)(ho:PE X o to)(ha:PA X (e::es) t)(hK:X.K=K:=by rfl)
 (hbase:attributeBase o name X.env (eval o X.env)=eval o X.env:=by rfl)
 (hfew:((backTo cpos (starEach (e::es) X.env)).all (fun x=>!x.1)&&(backToKw cpos (keywordEach [] X.env)).all (fun x=>x.1.isSome)
   && decide ((e::es).length+([]:List Keyword).length+(if ([]:List Keyword).isEmpty then 0 else 1)<30))=true:=by rfl)
 (hline:(apos.endLine==cpos.line)=true:=by rfl) (hs:starEach (e::es) X.env=(false,eval e X.env)::starEach es X.env:=by rfl) (hplain:(backTo cpos (starEach es X.env)).any (·.1)=false:=by rfl) :
 PE X (.Call (.Attribute o name apos) (e::es) [] cpos) (tBM K T r to t):=by subst hK;exact xK pa slot hty hm ho ha hbase hfew hline hs hplain
def Dj{es:List Expr}{k:Nat}{t:SY}{n:Nat}{pos:Pos}(hc:X.calm=true)(h:YY X es t)(hK:X.K=K:=by rfl)
 (hn:(assignEach es X.env).length=n:=by rfl) (hst:(assignEach es X.env).findIdx? (·.1)=none:=by rfl):PG X (.Tuple es k pos) (yN K n t):=by subst hK;exact uH hc h hn hst
end
end L2
namespace Hb
def Au(w:List Int)(fam:Int):LLInt :=
 if fam=0 then(if w.length<2 then [] else(List.range w.length).map fun i=>w.take i++w.drop (i+1))
 else if w.length=0 then []
 else if fam<0 then(if w.length=1 then [[],[]] else w.map fun l=>[l])
 else w.drop 1::((List.range (w.length-1)).map fun i=>w.take i++[(w.getD i 0+w.getD (i+1) 0)%fam]++w.drop (i+2))++[w.take (w.length-1)]
def D0(fam:Int)(w:List Int):Prop :=
 (fam=0/\1<=w.length/\w.length<=4)\/(fam<0/\(w.length=0\/w.length=1\/w.length=3))\/(0<fam/\w.length<=3)
def lv(fam:Int)(w:List Int):Nat:=if fam=0 then w.length-1 else if fam<0 then(if w.length=3 then 2 else w.length) else w.length
theorem Oz{fam:Int}{w:List Int}(h:D0 fam w) :
 (fam=0/\((∃a,w=[a])\/(∃a b,w=[a,b])\/(∃a b c,w=[a,b,c])\/∃a b c d,w=[a,b,c,d])) ∨
 (fam<0/\(w=[]\/(∃a,w=[a])\/∃a b c,w=[a,b,c])) ∨
 (0<fam/\(w=[]\/(∃a,w=[a])\/(∃a b,w=[a,b])\/∃a b c,w=[a,b,c])):=by
 rcases h with⟨h0,h1,h2⟩|⟨h0,h1⟩|⟨h0,h1⟩
 . left;refine⟨h0,?_⟩
   match w,h1,h2 with
   | [a],_,_=>exact .inl ⟨a,rfl⟩
   | [a,b],_,_=>exact .inr (.inl ⟨a,b,rfl⟩)
   | [a,b,c],_,_=>exact .inr (.inr (.inl ⟨a,b,c,rfl⟩))
   | [a,b,c,d],_,_=>exact .inr (.inr (.inr ⟨a,b,c,d,rfl⟩))
   | _::_::_::_::_::_,_,h=>simp at h
 . right;left;refine⟨h0,?_⟩
   match w,h1 with
   | [],_=>exact .inl rfl
   | [a],_=>exact .inr (.inl ⟨a,rfl⟩)
   | [a,b],h=>simp at h
   | [a,b,c],_=>exact .inr (.inr ⟨a,b,c,rfl⟩)
   | _::_::_::_::_,h=>simp at h
 . right;right;refine⟨h0,?_⟩
   match w,h1 with
   | [],_=>exact .inl rfl
   | [a],_=>exact .inr (.inl ⟨a,rfl⟩)
   | [a,b],_=>exact .inr (.inr (.inl ⟨a,b,rfl⟩))
   | [a,b,c],_=>exact .inr (.inr (.inr ⟨a,b,c,rfl⟩))
   | _::_::_::_::_,h=>simp at h
def yS(a:Int):Au [a] 0=[]:=rfl
def YR(a b:Int):Au [a,b] 0=[[b],[a]]:=rfl
def vU(a b c:Int):Au [a,b,c] 0=[[b,c],[a,c],[a,b]]:=rfl
def VT(a b c d:Int):Au [a,b,c,d] 0=[[b,c,d],[a,c,d],[a,b,d],[a,b,c]]:=rfl
section
variable{fam:Int}
def YQ(h:fam<0):Au [] fam=[]:=by unfold Au;rw[if_neg (by omega),if_pos (by simp)]
def OA(h:fam<0)(a:Int):Au [a] fam=[[],[]]:=by unfold Au;rw[if_neg (by omega),if_neg (by simp),if_pos h,if_pos (by simp)]
def vS(h:fam<0)(a b c:Int):Au [a,b,c] fam=[[a],[b],[c]]:=by unfold Au;rw[if_neg (by omega),if_neg (by simp),if_pos h,if_neg (by simp)];rfl
def yQ(h:0<fam):Au [] fam=[]:=by unfold Au;rw[if_neg (by omega),if_pos (by simp)]
def NZ(h:0<fam)(a:Int):Au [a] fam=[[],[]]:=by unfold Au;rw[if_neg (by omega),if_neg (by simp),if_neg (by omega)];rfl
def u7(h:0<fam)(a b:Int):Au [a,b] fam=[[b],[(a+b)%fam],[a]]:=by unfold Au;rw[if_neg (by omega),if_neg (by simp),if_neg (by omega)];rfl
def VR(h:0<fam)(a b c:Int):Au [a,b,c] fam=[[b,c],[(a+b)%fam,c],[a,(b+c)%fam],[a,b]]:=by unfold Au;rw[if_neg (by omega),if_neg (by simp),if_neg (by omega)];rfl
def Lv{w f:List Int}(h:D0 fam w)(hf:f∈Au w fam):D0 fam f/\lv fam f+1=lv fam w:=by
 rcases Oz h with⟨h0,⟨a,rfl⟩|⟨a,b,rfl⟩|⟨a,b,c,rfl⟩|⟨a,b,c,d,rfl⟩⟩|⟨h0,rfl|⟨a,rfl⟩|⟨a,b,c,rfl⟩⟩|⟨h0,rfl|⟨a,rfl⟩|⟨a,b,rfl⟩|⟨a,b,c,rfl⟩⟩
 . subst h0;rw[yS]at hf;exact nomatch hf
 . subst h0;rw[YR]at hf;simp only[qc0,qi4,or_false]at hf;rcases hf with rfl | rfl<;>simp[D0,lv]
 . subst h0;rw[vU]at hf;simp only[qc0,qi4,or_false]at hf;rcases hf with rfl | rfl | rfl<;>simp[D0,lv]
 . subst h0;rw[VT]at hf;simp only[qc0,qi4,or_false]at hf;rcases hf with rfl | rfl | rfl | rfl<;>simp[D0,lv]
 . rw[YQ h0]at hf;exact nomatch hf
 . rw[OA h0]at hf;simp only[qc0,qi4,or_false,or_self]at hf;subst hf;have e:¬fam=0:=by omega
   simp[D0,lv,h0,e]
 . rw[vS h0]at hf;have e:¬fam=0:=by omega
   simp only[qc0,qi4,or_false]at hf;rcases hf with rfl | rfl | rfl<;>simp[D0,lv,h0,e]
 . rw[yQ h0]at hf;exact nomatch hf
 . rw[NZ h0]at hf;have e:¬fam=0:=by omega
   have e':¬fam<0:=by omega
   simp only[qc0,qi4,or_false,or_self]at hf;subst hf;simp[D0,lv,h0,e,e']
 . rw[u7 h0]at hf;have e:¬fam=0:=by omega
   have e':¬fam<0:=by omega
   simp only[qc0,qi4,or_false]at hf;rcases hf with rfl | rfl | rfl<;>simp[D0,lv,h0,e,e']
 . rw[VR h0]at hf;have e:¬fam=0:=by omega
   have e':¬fam<0:=by omega
   simp only[qc0,qi4,or_false]at hf;rcases hf with rfl | rfl | rfl | rfl<;>simp[D0,lv,h0,e,e']
def Ij{w:List Int}(h:D0 fam w):(Au w fam).length=(if lv fam w=0 then 0 else lv fam w+1)/\lv fam w<=3:=by
 rcases Oz h with⟨h0,⟨a,rfl⟩|⟨a,b,rfl⟩|⟨a,b,c,rfl⟩|⟨a,b,c,d,rfl⟩⟩|⟨h0,rfl|⟨a,rfl⟩|⟨a,b,c,rfl⟩⟩|⟨h0,rfl|⟨a,rfl⟩|⟨a,b,rfl⟩|⟨a,b,c,rfl⟩⟩
 . subst h0;simp[yS,lv]
 . subst h0;simp[YR,lv]
 . subst h0;simp[vU,lv]
 . subst h0;simp[VT,lv]
 all_goals have e:¬fam=0:=by omega
 . simp[YQ h0,lv,e,h0]
 . simp[OA h0,lv,e,h0]
 . simp[vS h0,lv,e,h0]
 all_goals have e':¬fam<0:=by omega
 . simp[yQ h0,lv,e,e']
 . simp[NZ h0,lv,e,e']
 . simp[u7 h0,lv,e,e']
 . simp[VR h0,lv,e,e']
def cC{w f g:List Int}{i j:Nat}(h:D0 fam w)(hl:2<=lv fam w)(hij:i<j)(hf:(Au w fam)[j]?=some f)(hg:(Au w fam)[i]?=some g):(Au f fam)[i]?=(Au g fam)[j-1]?:=by
 have hj:j<(Au w fam).length:=(qa2.mp hf).1;rcases Oz h with⟨h0,⟨a,rfl⟩|⟨a,b,rfl⟩|⟨a,b,c,rfl⟩|⟨a,b,c,d,rfl⟩⟩|⟨h0,rfl|⟨a,rfl⟩|⟨a,b,c,rfl⟩⟩|⟨h0,rfl|⟨a,rfl⟩|⟨a,b,rfl⟩|⟨a,b,c,rfl⟩⟩
 . subst h0;simp[lv]at hl
 . subst h0;simp[lv]at hl
 . subst h0;rw[vU]at hf hg hj;have hc:(i=0/\j=1)\/(i=0/\j=2)\/(i=1/\j=2):=by simp at hj;omega
   rcases hc with⟨rfl,rfl⟩|⟨rfl,rfl⟩|⟨rfl,rfl⟩
   . simp at hf hg;subst hf hg;rfl
   . simp at hf hg;subst hf hg;rfl
   . simp at hf hg;subst hf hg;rfl
 . subst h0;rw[VT]at hf hg hj;have hc:(i=0/\j=1)\/(i=0/\j=2)\/(i=0/\j=3)\/(i=1/\j=2)\/(i=1/\j=3)\/(i=2/\j=3):=by simp at hj;omega
   rcases hc with⟨rfl,rfl⟩|⟨rfl,rfl⟩|⟨rfl,rfl⟩|⟨rfl,rfl⟩|⟨rfl,rfl⟩|⟨rfl,rfl⟩
   . simp at hf hg;subst hf hg;rfl
   . simp at hf hg;subst hf hg;rfl
   . simp at hf hg;subst hf hg;rfl
   . simp at hf hg;subst hf hg;rfl
   . simp at hf hg;subst hf hg;rfl
   . simp at hf hg;subst hf hg;rfl
 all_goals have e:¬fam=0:=by omega
 . simp[lv,e,h0]at hl
 . simp[lv,e,h0]at hl
 . rw[vS h0]at hf hg hj;have hc:(i=0/\j=1)\/(i=0/\j=2)\/(i=1/\j=2):=by simp at hj;omega
   rcases hc with⟨rfl,rfl⟩|⟨rfl,rfl⟩|⟨rfl,rfl⟩
   . simp at hf hg;subst hf hg;simp[OA h0]
   . simp at hf hg;subst hf hg;simp[OA h0]
   . simp at hf hg;subst hf hg;simp[OA h0]
 all_goals have e':¬fam<0:=by omega
 . simp[lv,e,e']at hl
 . simp[lv,e,e']at hl
 . rw[u7 h0]at hf hg hj;have hc:(i=0/\j=1)\/(i=0/\j=2)\/(i=1/\j=2):=by simp at hj;omega
   rcases hc with⟨rfl,rfl⟩|⟨rfl,rfl⟩|⟨rfl,rfl⟩
   . simp at hf hg;subst hf hg;simp[NZ h0]
   . simp at hf hg;subst hf hg;simp[NZ h0]
   . simp at hf hg;subst hf hg;simp[NZ h0]
 . rw[VR h0]at hf hg hj;have hc:(i=0/\j=1)\/(i=0/\j=2)\/(i=0/\j=3)\/(i=1/\j=2)\/(i=1/\j=3)\/(i=2/\j=3):=by simp at hj;omega
   rcases hc with⟨rfl,rfl⟩|⟨rfl,rfl⟩|⟨rfl,rfl⟩|⟨rfl,rfl⟩|⟨rfl,rfl⟩|⟨rfl,rfl⟩
   . simp at hf hg;subst hf hg;simp[u7 h0]
   . simp at hf hg;subst hf hg;simp[u7 h0]
   . simp at hf hg;subst hf hg;simp[u7 h0]
   . skip
     simp at hf hg;subst hf hg;simp only[u7 h0,List.getElem?_cons_succ,qp2,Nat.add_one_sub_one]
     congr 2
     rw[Int.add_emod_emod,Int.emod_add_emod,Int.add_assoc]
   . simp at hf hg;subst hf hg;simp[u7 h0]
   . simp at hf hg;subst hf hg;simp[u7 h0]
end
noncomputable def lev(p:List Int):Nat:=p.length-1
structure wJ(xs:LLInt)(p:List Int):Prop where
 cnt:p.length=0\/p.length=2\/p.length=3\/p.length=4
 low:∀f∈p,0<=f
 bel:∀f∈p,∃q,xs[f.toNat]?=some q/\lev q+1=lev p
 agr:3<=p.length->∀(i j:Nat) (f g:Int) (q r:List Int),i<j->p[j]?=some f->p[i]?=some g->xs[f.toNat]?=some q->xs[g.toNat]?=some r->q[i]?=r[j-1]?
def B0(xs:LLInt):Prop:=∀(k:Nat) (p:List Int),xs[k]?=some p->wJ (xs.take k) p
def HN(fam:Int)(ws:LLInt):Prop:=∀(k:Nat) (w:List Int),ws[k]?=some w->D0 fam w/\∀f∈Au w fam,f∈ws.take k
def HN.nil{fam:Int}:HN fam []:=fun k w h=>by simp at h
def HN.snoc{fam:Int}{ws:LLInt}{w:List Int}(h:HN fam ws)(hw:D0 fam w)(hf:∀f∈Au w fam,f∈ws):HN fam (ws++[w]):=by
 intro k v hk;by_cases hlt:k<ws.length
 . rw[qk9 hlt]at hk;rw[qj7 (by omega)];exact h k v hk
 . have hk':k<(ws++[w]).length:=(qa2.mp hk).1;have e:k=ws.length:=by simp at hk';omega
   subst e;simp at hk;subst hk;rw[qj7 (qa8 _),qb9];exact⟨hw,hf⟩
def HN.mem{fam:Int}{ws:LLInt}(h:HN fam ws){w:List Int}(hw:w∈ws):D0 fam w/\∀f∈Au w fam,f∈ws:=by
 obtain⟨k,hk⟩:=qi8 hw;obtain⟨h1,h2⟩:=h k w hk;exact⟨h1,fun f hf=>qh5 (h2 f hf)⟩
noncomputable def Dm(ws:LLInt):LLInt->LLInt
 | []=>ws
 | w::r=>Dm (if w∈ws then ws else ws++[w]) r
theorem Wo:∀(rows ws:LLInt),(Dm ws rows).length<=ws.length+rows.length
 | [],ws=>by simp[Dm]
 | w::r,ws=>by
   have h1:=Wo r (if w∈ws then ws else ws++[w])
   have h2:(if w∈ws then ws else ws++[w]).length<=ws.length+1:=by
    split
    . omega
    . simp
   simp only[Dm,qd9];omega
theorem Wn{fam:Int}:∀(rows ws:LLInt),HN fam ws->(∀(k:Nat) (w:List Int),rows[k]?=some w->D0 fam w/\∀f∈Au w fam,f∈ws\/f∈rows.take k)->HN fam (Dm ws rows)
 | [],ws,h,_=>h
 | w::r,ws,h,hr=>by
   have h0:=hr 0 w rfl;have hw:∀f∈Au w fam,f∈ws:=fun f hf=>(h0.2 f hf).resolve_right (by simp);simp only[Dm];refine Wn r _ ?_ fun k v hk=>?_
   . split
     . exact h
     . exact h.snoc h0.1 hw
   . obtain⟨h1,h2⟩:=hr (k+1) v (by simpa using hk);refine⟨h1,fun f hf=>?_⟩;rcases h2 f hf with z | z
     . left;split
       . exact z
       . exact qk4 _ z
     . rw[List.take_succ_cons]at z;rcases qc0.mp z with z | z
       . left;subst z;split
         . assumption
         . simp
       . exact .inr z
def Cc(ws:LLInt):LLInt->LLInt->LLInt
 | acc,[]=>acc
 | acc,f::r=>Cc ws (if f ∉ ws/\f ∉ acc then acc++[f] else acc) r
theorem Wl{ws:LLInt}{x:List Int}:∀(fs acc:LLInt),x∈Cc ws acc fs->x∈acc\/x∈fs
 | [],acc,h=>.inl h
 | f::r,acc,h=>by
   rcases Wl r _ h with z | z
   . split at z
     . rcases qd6.mp z with z | z
       . exact .inl z
       . exact .inr (by simp at z;simp[z])
     . exact .inl z
   . exact .inr (qb0 _ z)
theorem Nq{ws:LLInt}{x:List Int}:∀(fs acc:LLInt),x∈acc->x∈Cc ws acc fs
 | [],acc,h=>h
 | f::r,acc,h=>Nq r _ (by split;exact qk4 _ h;exact h)
theorem Wm{ws:LLInt}{x:List Int}:∀(fs acc:LLInt),x∈fs->x∈ws\/x∈Cc ws acc fs
 | f::r,acc,h=>by
   rcases qc0.mp h with e | e
   . subst e;by_cases h1:x∈ws
     . exact .inl h1
     . right;refine Nq r _ ?_;by_cases h2:x∈acc
       . rw[if_neg (by simp[h2])];exact h2
       . rw[if_pos ⟨h1,h2⟩];simp
   . exact Wm r _ e
theorem Pm{ws:LLInt}:∀(fs acc:LLInt),(Cc ws acc fs).length<=acc.length+fs.length
 | [],acc=>by simp[Cc]
 | f::r,acc=>by
   have h1:=Pm (ws:=ws) r (if f ∉ ws/\f ∉ acc then acc++[f] else acc)
   have h2:(if f ∉ ws/\f ∉ acc then acc++[f] else acc).length<=acc.length+1:=by
    split
    . simp
    . omega
   simp only[Cc,qd9];omega
def Df(ws:LLInt)(fam:Int):LLInt->LLInt->LLInt
 | acc,[]=>acc
 | acc,w::r=>Df ws fam (Cc ws acc (Au w fam)) r
theorem Od{ws:LLInt}{fam:Int}{x:List Int}:∀(l acc:LLInt),x∈Df ws fam acc l->x∈acc\/∃w∈l,x∈Au w fam
 | [],acc,h=>.inl h
 | w::r,acc,h=>by
   rcases Od r _ h with z|⟨v,hv,z⟩
   . rcases Wl _ _ z with z | z
     . exact .inl z
     . exact .inr ⟨w,qb2,z⟩
   . exact .inr ⟨v,qb0 _ hv,z⟩
theorem Wi{ws:LLInt}{fam:Int}{x:List Int}:∀(l acc:LLInt),x∈acc->x∈Df ws fam acc l
 | [],acc,h=>h
 | w::r,acc,h=>Wi r _ (Nq _ _ h)
theorem Zi{ws:LLInt}{fam:Int}{x w:List Int}:∀(l acc:LLInt),w∈l->x∈Au w fam->x∈ws\/x∈Df ws fam acc l
 | v::r,acc,h,hx=>by
   rcases qc0.mp h with e | e
   . subst e;rcases Wm (ws:=ws) _ acc hx with z | z
     . exact .inl z
     . exact .inr (Wi r _ z)
   . exact Zi r _ e hx
theorem Kt{ws:LLInt}{fam:Int}:∀(l acc:LLInt),(∀w∈l,D0 fam w)->(Df ws fam acc l).length<=acc.length+4*l.length
 | [],acc,_=>by simp[Df]
 | w::r,acc,h=>by
   have h1:=Kt (ws:=ws) r (Cc ws acc (Au w fam)) fun v hv=>h v (qb0 _ hv);have h2:=Pm (ws:=ws) (Au w fam) acc;have h3:=Ij (h w qb2);simp only[Df,qd9];split at h3<;>omega
theorem S0(ws:LLInt)(f:List Int):∀(fs acc:LLInt),Cc ws acc (fs++[f])=(if f ∉ ws/\f ∉ Cc ws acc fs then Cc ws acc fs++[f] else Cc ws acc fs)
 | [],acc=>rfl
 | g::fs,acc=>S0 ws f fs _
theorem Wh(ws:LLInt)(fam:Int)(w:List Int):∀(l acc:LLInt),Df ws fam acc (l++[w])=Cc ws (Df ws fam acc l) (Au w fam)
 | [],acc=>rfl
 | v::l,acc=>Wh ws fam w l _
theorem S1(w:List Int):∀(rows ws:LLInt),Dm ws (rows++[w])=(if w∈Dm ws rows then Dm ws rows else Dm ws rows++[w])
 | [],ws=>rfl
 | v::rows,ws=>S1 w rows _
def Lk(ws:LLInt)(fam:Int):Nat->LLInt->LLInt->LLInt
 | 0,layer,rows=>rows
 | n+1,layer,rows=>Lk ws fam n (Df ws fam [] layer) (layer++rows)
theorem Yj{ws:LLInt}{fam:Int}:∀(n:Nat) (layer rows:LLInt),(∀w∈layer,D0 fam w/\lv fam w<n) →
 (∀(k:Nat) (w:List Int),rows[k]?=some w->D0 fam w/\∀f∈Au w fam,f∈ws\/f∈layer\/f∈rows.take k) →
 ∀(k:Nat) (w:List Int),(Lk ws fam n layer rows)[k]?=some w->D0 fam w/\∀f∈Au w fam,f∈ws\/f∈(Lk ws fam n layer rows).take k
 | 0,layer,rows,hl,hr,k,w,hk=>by
   obtain⟨h1,h2⟩:=hr k w hk;refine⟨h1,fun f hf=>?_⟩;rcases h2 f hf with z | z | z
   . exact .inl z
   . exact absurd (hl f z).2 (by omega)
   . exact .inr z
 | n+1,layer,rows,hl,hr,k,w,hk=>by
   refine Yj n _ _ ?_ ?_ k w hk
   . intro v hv;rcases Od _ _ hv with z|⟨u,hu,z⟩
     . exact nomatch z
     . obtain⟨q1,q2⟩:=hl u hu;obtain⟨q3,q4⟩:=Lv q1 z;exact⟨q3,by omega⟩
   . intro m v hm;by_cases hlt:m<layer.length
     . rw[qk9 hlt]at hm;have hv:v∈layer:=qb5 hm;refine⟨(hl v hv).1,fun f hf=>?_⟩;rcases Zi (ws:=ws) layer [] hv hf with z | z
       . exact .inl z
       . exact .inr (.inl z)
     . rw[List.getElem?_append_right (by omega)]at hm;obtain⟨h1,h2⟩:=hr _ v hm;refine⟨h1,fun f hf=>?_⟩;rcases h2 f hf with z | z | z
       . exact .inl z
       . right;right;rw[List.take_append];refine qk4 _ ?_;rw[List.take_of_length_le (by omega)];exact z
       . right;right;rw[List.take_append];exact qe8 _ z
def Nu(ws:LLInt)(w:List Int)(fam:Int):LLInt:=Dm ws (Lk ws fam 4 [w] [])
def W1{ws:LLInt}{w:List Int}{fam:Int}(h:HN fam ws)(hw:D0 fam w):HN fam (Nu ws w fam):=by
 refine Wn _ _ h (Yj 4 [w] [] ?_ ?_)
 . intro v hv;have e:v=w:=by simpa using hv
   subst e;exact⟨hw,by have:=(Ij hw).2;omega⟩
 . intro k v hk;simp at hk
noncomputable def m7(ws:LLInt)(f:List Int):Nat:=ws.findIdx (·==f)
def QZ{ws:LLInt}{f:List Int}(h:f∈ws):ws[m7 ws f]?=some f:=by
 unfold m7;have hl:ws.findIdx (·==f)<ws.length:=qs6 ⟨f,h,by simp⟩;rw[qa0 hl];have:=List.findIdx_getElem (xs:=ws) (p:=(·==f)) (w:=hl);simpa using this
def VD{ws:LLInt}{f:List Int}{k:Nat}(h:f∈ws.take k):m7 ws f<k:=by
 unfold m7;obtain⟨i,hi⟩:=qi8 h;have hlt:i<(ws.take k).length:=(qa2.mp hi).1;rw[qo0]at hi;split at hi
 . rename_i hik
   have hl:i<ws.length:=(qa2.mp hi).1
   have e:ws[i]=f:=by
    rw[qa0 hl]at hi;exact qd4 hi
   have hle:ws.findIdx (·==f)<=i:=by
    apply Nat.le_of_not_lt;intro hgt;have:=List.not_of_lt_findIdx hgt;simp[e]at this
   omega
 . cases hi
def K9(ws:LLInt)(fam:Int):LLInt:=ws.map fun w=>(Au w fam).map fun f=>(m7 ws f:Int)
def AS{ws:LLInt}{fam:Int}{k:Nat}{w:List Int}(h:ws[k]?=some w):(K9 ws fam)[k]?=some ((Au w fam).map fun f=>(m7 ws f:Int)):=by
 unfold K9;rw[qa7,h];rfl
theorem W5{ws:LLInt}{fam:Int}(h:HN fam ws):B0 (K9 ws fam):=by
 intro k p hp;unfold K9 at hp;rw[qa7]at hp;cases hw:ws[k]? with
 | none=>rw[hw]at hp;cases hp
 | some w =>
   rw[hw]at hp;have yD:(Au w fam).map (fun f=>(m7 ws f:Int))=p:=by simpa using hp
   subst yD;obtain⟨h1,h2⟩:=h k w hw;obtain⟨n1,n2⟩:=Ij h1
   have look:∀f∈Au w fam,((K9 ws fam).take k)[((m7 ws f:Nat):Int).toNat]?=some ((Au f fam).map fun g=>(m7 ws g:Int)):=fun f hf=>by
    have hm:=h2 f hf;have hlt:=VD hm;rw[qd0,qo0,if_pos hlt];exact AS (QZ (qh5 hm))
   refine⟨?_,?_,?_,?_⟩
   . rw[qa3];by_cases hz:lv fam w=0
     . rw[if_pos hz]at n1;omega
     . rw[if_neg hz]at n1;omega
   . intro f hf;obtain⟨g,_,rfl⟩:=qd8.mp hf;omega
   . intro f hf;obtain⟨g,hg,rfl⟩:=qd8.mp hf;refine⟨_,look g hg,?_⟩;obtain⟨w1,l1⟩:=Lv h1 hg;obtain⟨m1,_⟩:=Ij w1;unfold lev;rw[qa3,qa3];have hz:¬lv fam w=0:=by omega
     rw[if_neg hz]at n1;by_cases hy:lv fam g=0
     . rw[if_pos hy]at m1;omega
     . rw[if_neg hy]at m1;omega
   . intro hl i j f g q r hij hf hg hq hr;rw[qa3]at hl;rw[qa7]at hf hg;cases ef:(Au w fam)[j]? with
     | none=>rw[ef]at hf;cases hf
     | some F =>
       cases eg:(Au w fam)[i]? with
       | none=>rw[eg]at hg;cases hg
       | some G =>
         rw[ef]at hf;rw[eg]at hg;have ef':((m7 ws F:Nat):Int)=f:=by simpa using hf
         have eg':((m7 ws G:Nat):Int)=g:=by simpa using hg
         subst ef' eg';rw[look F (qb5 ef)]at hq;rw[look G (qb5 eg)]at hr;cases hq;cases hr;have hz:¬lv fam w=0:=by intro z;rw[if_pos z]at n1;omega
         rw[if_neg hz]at n1;rw[qa7,qa7,cC h1 (by omega) hij ef eg]
def fC{ws:LLInt}{fam:Int}{w:List Int}(hw:D0 fam w):(Lk ws fam 4 [w] []).length<=85:=by
 have step:∀l:LLInt,(∀v∈l,D0 fam v)->(Df ws fam [] l).length<=4*l.length/\∀v∈Df ws fam [] l,D0 fam v:=fun l hl=>by
  refine⟨by have:=Kt (ws:=ws) l [] hl;simpa using this,fun v hv=>?_⟩;rcases Od _ _ hv with z|⟨u,hu,z⟩
  . exact nomatch z
  . exact(Lv (hl u hu) z).1
 have s0:∀v∈[w],D0 fam v:=fun v hv=>by
  have e:v=w:=by simpa using hv
  subst e;exact hw
 obtain⟨a1,b1⟩:=step _ s0;obtain⟨a2,b2⟩:=step _ b1;obtain⟨a3,b3⟩:=step _ b2;simp only[Lk,qd1,qf7,qd9]at a1 a2 a3 ⊢;omega
section
variable{xs:LLInt}
end
end Hb
namespace Hb
open PySem L2
def V6(ns:List Int)(k:Int):Int:=ns.getD k.toNat 0
abbrev LT(K:W.Frag)(H:Hp)(v:V)(xs:LLInt):Prop:=Rep K H v (.lst (xs.map tI))
abbrev TI(K:W.Frag)(H:Hp)(v:V)(ns:List Int):Prop:=Rep K H v (tI ns)
section
variable{K:W.Frag}{H H':Hp}
def TI.sq{v:V}{ns:List Int}(h:TI K H v ns):∃a,v=.ref a/\Fw K H a (ns.map V.int):=by
 obtain⟨a,vs,e,q,r⟩:=h;rw[Gc.mp r]at q;exact⟨a,e,q⟩
def TI.mk{a:Addr}{ns:List Int}(h:Fw K H a (ns.map V.int)):TI K H (.ref a) ns:=⟨a,_,rfl,h,Gc.mpr rfl⟩
def qn2{v:V}{ns:List Int}(s:Ah H H')(h:TI K H v ns):TI K H' v ns:=Rep.same s h
theorem TI.t{v:V}{ns:List Int}(s:Qr H H')(h:TI K H v ns):TI K H' v ns:=Rep.t s (NQ ns) h
def Nm(xs:List V)(k:Nat):Qh xs none (some (k:Int))=xs.take k:=by
 unfold Qh;rw[HT.sIx_none,HT.sIx_nat,Nat.sub_zero,List.drop_zero,List.take_eq_take_iff];omega
def Vz(xs:List V)(k:Nat):Qh xs (some (k:Int)) none=xs.drop k:=by
 unfold Qh;rw[HT.sIx_none,HT.sIx_nat];by_cases h:k<=xs.length
 . rw[Nat.min_eq_left h,List.take_of_length_le (by rw[qn0];omega)]
 . rw[Nat.min_eq_right (by omega),List.drop_length,List.drop_of_length_le (by omega)];simp
def iM{D:Addr}{ys:List V}{v:V}{d:L2.D}{ds:List L2.D}(hD:H D=some (.lst ys))(r:Reps K H ys ds)(rv:Rep K H v d)(hi:imms (ds++[d])=true):Reps K (upd H D (.lst (ys++[v]))) (ys++[v]) (ds++[d]) :=
 (r.snoc rv).t (Qr.lst hD) hi
def Ew{D:Addr}{ys:List V}{v:V}{xs:LLInt}{x:List Int}(hD:H D=some (.lst ys))(r:Reps K H ys (xs.map tI))(rv:TI K H v x):Reps K (upd H D (.lst (ys++[v]))) (ys++[v]) ((xs++[x]).map tI):=by
 have e:(xs++[x]).map tI=xs.map tI++[tI x]:=by simp
 have h:=Qe (xs++[x]);rw[e]at h ⊢;exact iM hD r rv h
def Dx(B:Addr)(H H':Hp):Prop:=∀b o,b≠B->H b=some o->H' b=some o
def Dx.refl(B:Addr)(H:Hp):Dx B H H:=fun _ _ _ h=>h
def Dx.trans{B:Addr}{H H1 H2:Hp}(a:Dx B H H1)(b:Dx B H1 H2):Dx B H H2:=fun c o n h=>b c o n (a c o n h)
def Dx.of{B:Addr}{H H1:Hp}(a:Ah H H1):Dx B H H1:=fun c o _ h=>a c o h
theorem Dx.upd{B:Addr}{H H1:Hp}{o:HO}(a:Dx B H H1):Dx B H (upd H1 B o):=fun c u n h=>by rw[Ai n];exact a c u n h
def Dx.t{B:Addr}{H H1:Hp}{us:List V}(a:Dx B H H1)(h:H B=some (.lst us)):Qr H H1 :=
 ⟨fun b xs e=>a b _ (Yg e h (by intro z;cases z)) e,fun b o u e=>a b _ (Yg e h (by intro z;cases z)) e⟩
def Dx.same{B:Addr}{H0 H H1:Hp}(a:Dx B H H1)(s:Ah H0 H)(h:H0 B=none):Ah H0 H1:=fun b o e=>a b o (Ap e h) (s b o e)
theorem Gi:∀ns:List Int,deps (B7 ns)=0
 | []=>rfl
 | n::ns=>by show max (dep (.int n)) (deps (B7 ns))=0;rw[Gi ns];rfl
theorem Kq:∀xs:LLInt,deps (xs.map tI)<=1
 | []=>qb6 _
 | x::xs=>by
   have h1:=Kq xs;have h2:dep (tI x)=1:=by show deps (B7 x)+1=1;rw[Gi]
   show max (dep (tI x)) (deps (xs.map tI))<=1;omega
theorem Np(f:List Int):∀xs:LLInt,(xs.map tI).any (fun e=>eqD e (tI f))=decide (f∈xs)
 | []=>rfl
 | x::xs=>by
   rw[qc6,qh8,Np f xs,OE];by_cases h:x=f
   . subst h;simp
   . have h':¬f=x:=fun z=>h z.symm;simp[h,h']
def L7{c A B:Prop}[Decidable c](hc:c)(h:A):if c then A else B:=by rw[if_pos hc];exact h
def Fx{c A B:Prop}[Decidable c](hc:¬c)(h:B):if c then A else B:=by rw[if_neg hc];exact h
def neI{a b:Int}(h:¬a=b):(!decide (V.int a=V.int b))=true:=by simp[h]
def eqI{a b:Int}(h:a=b):¬(!decide (V.int a=V.int b))=true:=by simp[h]
def noI{a b:Int}(h:¬a=b):¬decide (V.int a=V.int b)=true:=by simp[h]
def Gk{g:TG}{te:TE}{D:Addr}{Q:Hp->Prop}{τ:St}{H:Hp}{K:W.Frag}{a:Addr}{xs:List V}(Pv:Nat->List V->St->Hp->Prop)(h0:Pv 0 [] τ H)(hl:∀i ys τ H,i<=xs.length->Pv i ys τ H->SqL K H a xs)
 (hs:∀i x ys τ H,xs[i]?=some x->Pv i ys τ H->g x τ H fun τ2 H2=>te τ2 H2 fun y H4=>H4 D=some (.lst ys)/\ys.length<sizeLine/\Pv (i+1) (ys++[y]) τ2 (upd H4 D (.lst (ys++[y]))))
 (hd:∀ys τ H,Pv xs.length ys τ H->Q H):Tm (WI K a) g PR te D Q τ H:=Yz Pv h0 hl (fun i x ys τ H e p=>hs i x ys τ H e p) hd
def Oc{g:TG}{te:TE}{D:Addr}{Q:Hp->Prop}{τ:St}{H:Hp}{K:W.Frag}{a:Addr}{xs:List V}(Pv:Nat->List V->St->Hp->Prop)(h0:Pv 0 [] τ H)(hl:∀i ys τ H,i<=xs.length->Pv i ys τ H->Fw K H a xs)
 (hs:∀i x ys τ H,xs[i]?=some x->Pv i ys τ H->g x τ H fun τ2 H2=>te τ2 H2 fun y H4=>H4 D=some (.lst ys)/\ys.length<sizeLine/\Pv (i+1) (ys++[y]) τ2 (upd H4 D (.lst (ys++[y]))))
 (hd:∀ys τ H,Pv xs.length ys τ H->Q H):Tm (wI K a) g PR te D Q τ H:=OT Pv h0 hl (fun i x ys τ H e p=>hs i x ys τ H e p) hd
def Jr{g:TG}{te:TE}{D:Addr}{Q:Hp->Prop}{τ:St}{H:Hp}{lo:Int}{n:Nat}(Pv:Nat->List V->St->Hp->Prop)(h0:Pv 0 [] τ H)
 (hs:∀i ys τ H,i<n->Pv i ys τ H->g (.int (lo+i)) τ H fun τ2 H2=>te τ2 H2 fun y H4=>H4 D=some (.lst ys)/\ys.length<sizeLine/\Pv (i+1) (ys++[y]) τ2 (upd H4 D (.lst (ys++[y]))))
 (hd:∀ys τ H,Pv n ys τ H->Q H):Tm (tE lo n) g PR te D Q τ H:=Gj Pv h0 (fun i ys τ H e p=>hs i ys τ H e p) hd
def An{t u:TS}{D:Ends}{σ:St}{H:Hp}(P:St->Hp->Prop)(hu:∀σ' H',P σ' H'->u D σ' H')(h:∀{N:St->Hp->Prop},(∀σ' H',P σ' H'->N σ' H')->t { D with nx:=N } σ H):LK t u D σ H:=h hu
def qt6{t u:TS}{D:Ends}{σ:St}{H:Hp}(P:St->Hp->Prop)(h:∀{N:St->Hp->Prop},(∀σ' H',P σ' H'->N σ' H')->t { D with nx:=N } σ H)(hu:∀σ' H',P σ' H'->u D σ' H'):LK t u D σ H:=h hu
def Nv{t u:TS}{D:Ends}{σ:St}{H:Hp}(P:St->Hp->Prop)(hu:∀σ' H',P σ' H'->u D σ' H')(h:(∀σ' H',P σ' H'->u D σ' H')->LK t u D σ H):LK t u D σ H:=h hu
def fN{f:List Int}:∀{ws:LLInt},f∈ws->(ws.map tI).findIdx? (fun e=>eqD e (tI f))=some (m7 ws f):=fun {ws} h=>by
 have e:(ws.map tI).findIdx? (fun e=>eqD e (tI f))=ws.findIdx? (fun w=>w==f):=by
  rw[List.findIdx?_map]
  congr 1
  funext w
  show eqD (tI w) (tI f)=(w==f)
  rw[OE];by_cases z:w=f
  . subst z;simp
  . simp[z]
 rw[e,List.findIdx?_eq_some_of_exists (xs:=ws) (p:=fun w=>w==f) ⟨f,h,by simp⟩];rfl
def Cb{n:Nat}(h:n<=1000000):n<sizeLine:=Nat.lt_of_le_of_lt h (by decide)
def Bk{n:Nat}(h:n<=1000000):n<=sizeLine:=qt3 (Cb h)
end
section
variable(K:W.Frag)
def DR:Sp:=fun vs H Q _=>∃(a:Addr) (ns:List Int) (k:Int),vs=[.ref a,.int k]/\SqL K H a (ns.map V.int)/\0<=k/\ns.length<=63/\Q (.int (V6 ns k)) H
def aO:Sp:=fun vs H Q _=>∃(v:V) (w:List Int) (fam:Int),vs=[v,.int fam]/\TI K H v w/\D0 fam w ∧
 ∀(p:Addr) (us:List V) (H':Hp),H p=none->Ah H H'->H' p=some (.lst us)->Reps K H' us ((Au w fam).map tI)->Q (.ref p) H'
def dR:Sp:=fun vs H Q _=>∃(c fam letters:Int),vs=[.int c,.int fam,.int letters]/\0<letters/\letters<100/\fam<100 ∧
 ∀(v:V) (H':Hp) (w:List Int),Ah H H'->TI K H' v w->D0 fam w->Q v H'
def W2:Sp:=fun vs H Q _=>∃(l:Addr) (us:List V) (v:V) (ws:LLInt) (w:List Int) (fam:Int),vs=[.ref l,v,.int fam]/\H l=some (.lst us)/\Reps K H us (ws.map tI)/\TI K H v w/\D0 fam w/\ws.length<=100 ∧
 ∀(p:Addr) (us':List V) (H':Hp),H p=none->Ah H H'->H' p=some (.lst us')->Reps K H' us' ((Nu ws w fam).map tI)->Q (.ref p) H'
def Zt:Sp:=fun vs H Q _=>∃(a:Addr) (ns:List Int),vs=[.ref a]/\SqL K H a (ns.map V.int)/\ns.length<=63/\∀H',Q (.bl true) H'
def Mi:Sp:=fun vs H Q _=>∃(a:Addr) (ns:List Int) (kind most:Int),vs=[.int kind,.ref a,.int most]/\SqL K H a (ns.map V.int)/\ns.length<=63/\0<=most/\most<=100 ∧
 ∀(p:Addr) (us:List V) (H':Hp) (xs:LLInt),H p=none->Ah H H'->H' p=some (.lst us)->Reps K H' us (xs.map tI)->B0 xs->(xs.length:Int)<=most->Q (.ref p) H'
end
def D3(d:L2.D):Bool:=FJ "int" d&&!FJ "bool" d
def Wj(d:L2.D)(b:Int):Bool:=match d with
 | .int i=>decide (0<=i)&&decide (i<b)
 | _=>false
def Ca(n:Nat):Int:=if (0:Int) > (n:Int)-1 then 0 else(n:Int)-1
def B8(xs:LLInt)(d:L2.D)(l:Int):Bool:=match d with
 | .int i=>decide (0<=i)&&decide (i<(xs.length:Int))&&decide (Ca (xs.getD i.toNat []).length=l)
 | _=>false
def agreeAt(xs:LLInt)(p:List Int)(j i:Nat):Bool:=decide ((xs.getD (p.getD j 0).toNat []).getD i 0=(xs.getD (p.getD i 0).toNat []).getD (j-1) 0)
def Pl(xs:LLInt)(p:List Int):Bool:=(List.range p.length).all fun j=>(List.range j).all fun i=>agreeAt xs p j i
def tO:L2.D->Int
 | .int i=>i
 | _=>0
noncomputable def Xp(n:Nat):Bool:=n==0 || n==2 || n==3 || n==4
def Jp(xs:LLInt)(d:L2.D):Bool:=match d with
 | .tup ds=>Xp ds.length&&ds.all (fun e=>B8 xs e (Ca ds.length-1))&&(decide (Ca ds.length<2) || Pl xs (ds.map tO))
 | _=>false
def Ii(xs:LLInt)(ds:List L2.D):Jp xs (.tup ds)=(Xp ds.length&&ds.all (fun e=>B8 xs e (Ca ds.length-1))&&(decide (Ca ds.length<2) || Pl xs (ds.map tO))):=rfl
def HB{n:Nat}(h:Xp n=true):n<=4/\n≠1:=by
 unfold Xp at h;simp only[qq5,beq_iff_eq]at h;omega
section
variable(K:W.Frag)
def E6:Sp:=fun vs H Q _=>∃(x:V) (d:L2.D),vs=[x]/\Rep K H x d/\Q (.bl (D3 d)) H
abbrev K6:Sp:=E6 K
def Fk:Sp:=fun vs H Q _=>∃(x:V) (d:L2.D) (b:Int),vs=[x,.int b]/\Rep K H x d/\Q (.bl (Wj d b)) H
def Cq:Sp:=fun vs H Q _=>∃(x:V) (ds:List L2.D),vs=[x]/\WE K H x ds/\Q (.int (Ca ds.length)) H
def D4:Sp:=fun vs H Q _=>∃(a:Addr) (x:V) (d:L2.D) (l:Int) (xs:LLInt),vs=[.ref a,x,.int l]/\LT K H (.ref a) xs/\Rep K H x d/\Q (.bl (B8 xs d l)) H
abbrev Hm:Sp:=DR K
abbrev Gn:Sp:=aO K
abbrev K5:Sp:=dR K
abbrev Gy:Sp:=W2 K
end
section
variable{K:W.Frag}{H:Hp}
def T5{d:L2.D}(h:D3 d=true):∃i,d=.int i:=by
 cases d<;>simp[D3,FJ]at h;exact⟨_,rfl⟩
theorem LT.get{a:Addr}{xs:LLInt}{i:Int}(h:LT K H (.ref a) xs)(h0:0<=i)(h1:i<(xs.length:Int)):∃us v,SqL K H a us/\Pp us i=some v/\TI K H v (xs.getD i.toNat []):=by
 obtain⟨a',us,e,hq,r⟩:=h;cases e;obtain⟨j,rfl⟩:=qj5 h0;have hj:j<xs.length:=by omega
 have e:(xs.map tI)[j]?=some (tI xs[j]):=by rw[qa7,qa0 hj];rfl
 obtain⟨v,hv,tv⟩:=r.get e;refine⟨us,v,hq,Dw hv,?_⟩;rw[qd0,qa5,qa0 hj];exact tv
def LT.len{a:Addr}{xs:LLInt}(h:LT K H (.ref a) xs):∃us,SqL K H a us/\us.length=xs.length:=by
 obtain⟨a',us,e,hq,r⟩:=h;cases e;exact⟨us,hq,by have:=r.length;simpa using this⟩
def Ey(n:Nat):Ca n=((n-1:Nat):Int):=by unfold Ca;split<;>omega
theorem dF{xs:LLInt}{l:Int}:∀{ds:List L2.D},ds.all (fun e=>B8 xs e l)=true->ds=B7 (ds.map tO)
 | [],_=>rfl
 | d::ds,h=>by
   simp only[List.all_cons,qb4]at h;cases d with
   | int i =>
     show L2.D.int i::ds=L2.D.int i::B7 (ds.map tO);rw[←dF h.2]
   | _=>simp[B8]at h
end
end Hb
namespace L2
open PySem PySem.Spec PyProof.Rows
def Nr(o o':Obj):Prop:=∀vs,o.data=.fields vs->∃vs',o'.data=.fields vs'/\vs'[2]?=vs[2]?
def Nr.refl(o:Obj):Nr o o:=fun vs e=>⟨vs,e,rfl⟩
theorem Nr.trans{o o1 o2:Obj}(x:Nr o o1)(y:Nr o1 o2):Nr o o2:=fun vs e=>by
 obtain⟨v1,e1,q1⟩:=x vs e;obtain⟨v2,e2,q2⟩:=y v1 e1;exact⟨v2,e2,q2.trans q1⟩
def dH(f:Obj->Obj):Prop:=∀o,(f o).dict=o.dict/\(o.isFreed=false->(f o).isFreed=false)/\Nr o (f o)
def Bo{α:Type}:Sem α->Prop
 | .pure _=>True
 | .raise _=>True
 | .unsupported _=>True
 | .finish _=>True
 | .rule _ k=>Bo (k ())
 | .at _ k=>Bo (k ())
 | .load _ _ k=>∀o,Bo (k o)
 | .update _ _ f k=>dH f/\Bo (k ())
 | .alloc _ k=>∀a,Bo (k a)
 | .loadIfAlive _ k=>∀o,Bo (k o)
 | .point _ k=>Bo (k ())
 | .register _ _=>True
 | .fresh k=>∀t,Bo (k t)
 | .ask k=>∀x,Bo (k x)
 | .choose _ _ k=>∀n,Bo (k n)
 | .os _ _ k=>∀r,Bo (k r)
 | .call _ _ _ _ _=>False
 | .handled _ k=>∀v,Bo (k v)
 | .newGen _ k=>∀n,Bo (k n)
 | .genState _ k=>∀x,Bo (k x)
 | .resume _ _ _ _=>False
 | .yield _ _ _ _=>True
 | .stack k=>∀x,Bo (k x)
 | .fork _ _=>True
 | .thread k=>∀x,Bo (k x)
 | .await _ _ _ _ _=>True
theorem Bo.bind{α β:Type}{m:Sem α}{k:α->Sem β}(h:Bo m)(hk:∀a,Bo (k a)):Bo (m>>=k):=by
 show Bo (Sem.bind m k)
 induction m with
 | pure a=>exact hk a
 | rule t c ih=>exact ih () h
 | «at» p c ih=>exact ih () h
 | load a p c ih=>exact fun o=>ih o (h o)
 | update a p f c ih=>exact⟨h.1,ih () h.2⟩
 | alloc o c ih=>exact fun a=>ih a (h a)
 | loadIfAlive a c ih=>exact fun o=>ih o (h o)
 | point l c ih=>exact ih () h
 | fresh c ih=>exact fun o=>ih o (h o)
 | ask c ih=>exact fun o=>ih o (h o)
 | choose s n c ih=>exact fun o=>ih o (h o)
 | os r l c ih=>exact fun o=>ih o (h o)
 | handled o c ih=>exact fun o=>ih o (h o)
 | newGen g c ih=>exact fun o=>ih o (h o)
 | genState g c ih=>exact fun o=>ih o (h o)
 | stack c ih=>exact fun o=>ih o (h o)
 | thread c ih=>exact fun o=>ih o (h o)
 | call c a b d e=>exact False.elim h
 | resume a b c d=>exact False.elim h
 | _=>trivial
def Dy(h h':Heap):Prop:=∀b o,h.get? b=some o->∃o',h'.get? b=some o'/\o'.dict=o.dict/\Nr o o'
theorem Dy.refl(h:Heap):Dy h h:=fun _ o e=>⟨o,e,rfl,Nr.refl o⟩
theorem Dy.trans{h h1 h2:Heap}(x:Dy h h1)(y:Dy h1 h2):Dy h h2:=fun b o e=>by
 obtain⟨o1,e1,d1,f1⟩:=x b o e;obtain⟨o2,e2,d2,f2⟩:=y b o1 e1;exact⟨o2,e2,d2.trans d1,f1.trans f2⟩
theorem Dy.push(h:Heap)(o:Obj):Dy h (h.push o):=fun b o' e=>⟨o',qa4 o e,rfl,Nr.refl o'⟩
theorem Dy.update{h:Heap}{a:Addr}{f:Obj->Obj}(g:dH f):Dy h (h.update a f):=fun b o e=>by
 by_cases z:a=b
 . subst z;exact⟨f o,qf9 f e ((g o).2.1 (Heap.get?_some_iff.mp e).2),(g o).1,(g o).2.2⟩
 . exact⟨o,by rw[qe7 _ _ z];exact e,rfl,Nr.refl o⟩
theorem IB{α:Type}{M:Model}{Γ:PySem.Ctx}{Q:α->Pos->Shared->Prop}{E:Value->Pos->Shared->Prop}{t:Sem α}(hk:Bo t):∀(p:Pos) (s:Shared),Sem.wp M Γ t Q E p s →
 Sem.wp M Γ t (fun a p' s'=>Q a p' s'/\Dy s.heap s'.heap) (fun e p' s'=>E e p' s'/\Dy s.heap s'.heap) p s:=by
 induction t with
 | pure a=>intro p s h;exact⟨h,Dy.refl _⟩
 | raise e=>intro p s h;exact⟨h,Dy.refl _⟩
 | unsupported w=>intro p s h;exact h
 | finish e=>intro p s h;exact h
 | rule g k ih=>intro p s h;exact ih () hk _ _ h
 | «at» p' k ih=>intro p s h;exact ih () hk _ _ h
 | load a q k ih=>intro p s h;obtain⟨o,e,h⟩:=h;exact⟨o,e,ih o (hk o) _ _ h⟩
 | update a q f k ih =>
   intro p s h;obtain⟨e,h⟩:=h;refine⟨e,?_⟩;have:=ih () hk.2 _ _ h;exact wp_tr this (Dy.update hk.1)
 | alloc o k ih=>intro p s h;exact wp_tr (ih _ (hk _) _ _ h) (Dy.push _ _)
 | loadIfAlive a k ih=>intro p s h;exact ih _ (hk _) _ _ h
 | point l k ih=>intro p s h;exact ih () hk _ _ h
 | register a k ih=>intro p s h;exact h
 | fresh k ih=>intro p s h;exact ih _ (hk _) _ _ h
 | ask k ih=>intro p s h;exact ih _ (hk _) _ _ h
 | choose c n k ih=>intro p s h;exact⟨h.1,ih _ (hk _) _ _ h.2⟩
 | os r l k ih=>intro p s h;exact ih _ (hk _) _ _ h
 | call c a b d k ih=>exact False.elim hk
 | handled o k ih=>intro p s h;exact ih _ (hk _) _ _ h
 | newGen c k ih=>intro p s h;exact ih _ (hk _) _ _ h
 | genState g k ih=>intro p s h;obtain⟨x,e,h⟩:=h;exact⟨x,e,ih _ (hk _) _ _ h⟩
 | resume a b c k ih=>exact False.elim hk
 | yield a b c k ih=>intro p s h;exact h
 | stack k ih=>intro p s h;exact ih _ (hk _) _ _ h
 | fork c k ih=>intro p s h;exact h
 | thread k ih=>intro p s h;exact ih _ (hk _) _ _ h
 | await a b c d k ih=>intro p s h;exact h
where
 wp_tr {α:Type}{M:Model}{Γ:PySem.Ctx}{Q:α->Pos->Shared->Prop}{E:Value->Pos->Shared->Prop}{t:Sem α}{p:Pos}{s:Shared}{h h1:Heap}
  (x:Sem.wp M Γ t (fun a p' s'=>Q a p' s'/\Dy h1 s'.heap) (fun e p' s'=>E e p' s'/\Dy h1 s'.heap) p s) (y:Dy h h1) :
  Sem.wp M Γ t (fun a p' s'=>Q a p' s'/\Dy h s'.heap) (fun e p' s'=>E e p' s'/\Dy h s'.heap) p s :=
  Sem.wp_mono _ _ _ (fun _ _ _ z=>⟨z.1,y.trans z.2⟩) (fun _ _ _ z=>⟨z.1,y.trans z.2⟩) _ _ x
def D8{α:Type}{M:Model}{A:Around}{Q:α->Shared->Prop}{E:Value->Shared->Prop}{t:Sem α}{s:Shared}(hk:Bo t)(h:wpAny M A t Q E s) :
 wpAny M A t (fun a s'=>Q a s'/\Dy s.heap s'.heap) (fun e s'=>E e s'/\Dy s.heap s'.heap) s:=fun Γ p hi=>IB hk _ _ (h Γ p hi)
def Cg{α:Type}(a:α):Bo (pure a:Sem α):=True.intro
def Ot{α:Type}(w:String):Bo (unsupported w:Sem α):=True.intro
def l5(a:Addr):Bo (load a):=fun _=>True.intro
def Yl(a:Addr){f:Obj->Obj}(h:dH f):Bo (update a f):=⟨h,True.intro⟩
def bT(o:Obj):Bo (alloc o):=fun _=>True.intro
def Va:Bo stack:=fun _=>True.intro
theorem r9(g:Array Value->Array Value)(hg:∀vs,(g vs)[2]?=vs[2]?):dH (Obj.mapFields g):=fun o=>by
 obtain⟨c,d,da,sl⟩:=o;cases da with
 | fields ws=>exact⟨rfl,fun h=>h,fun vs e=>by
    cases e;exact⟨_,rfl,hg ws⟩⟩
 | _=>exact⟨rfl,fun h=>h,fun vs e=>by cases e⟩
def BZ(g:Obj->Bs):dH (fun o=>{ o with slots:=g o }):=fun o=>⟨rfl,fun h=>by
 obtain⟨c,d,da,sl⟩:=o;cases da<;>exact h,fun vs e=>⟨vs,e,rfl⟩⟩
def U9(a:Addr)(i:Nat)(v:Value)(hi:i≠2:=by decide):Bo (updateField a i v):=by
 unfold updateField;refine(l5 a).bind fun o=>?_;split
 . split
   . exact Yl a (r9 _ fun vs=>by rw[Array.getElem?_setIfInBounds_ne hi])
   . exact Ot _
 . exact Ot _
def M5(v:Value)(i:Nat)(x:Value)(hi:i≠2:=by decide):Bo (setField v i x):=by
 unfold setField;split
 . exact U9 _ _ _ hi
 . exact Ot _
def BS(v:Value):Bo (fieldsOf v):=by
 unfold fieldsOf;split
 . refine(l5 _).bind fun o=>?_;split
   . exact Cg _
   . exact Ot _
 . exact Ot _
def Qd(v:Value)(i:Nat):Bo (field v i):=by
 unfold field;refine(BS v).bind fun vs=>?_;split
 . exact Cg _
 . exact Ot _
def Ll(e:Value)(fr:OAddr):Bo (setFlight e fr):=by
 unfold setFlight;refine(Qd e 1).bind fun tb=>?_;split
 . exact M5 _ _ _
 . exact Cg _
def k9(ty:String)(vs:List Value):Bo (newFields ty vs):=by
 unfold newFields newObj;dsimp only;split
 . exact(Ot _).bind fun _=>(bT _).bind fun _=>Cg _
 . exact(bT _).bind fun _=>Cg _
def Tf(f:Addr)(b:Bool):Bo (entryPlaceOf f b):=by
 unfold entryPlaceOf;refine Va.bind fun acts=>?_;split
 . exact Cg _
 . exact Cg _
def l6:Bo frameEnvs:=by
 unfold frameEnvs;exact Va.bind fun _=>Cg _
def jP(env:Env)(outer:List Env):Bo (behindIsImport env outer):=by
 unfold behindIsImport;split
 . exact Cg _
 . split
   . exact Cg _
   . exact(Qd _ _).bind fun _=>Cg _
def JO:Bo underTheClaimsCaller:=by
 unfold underTheClaimsCaller;exact Va.bind fun _=>Cg _
theorem bS(env:Env)(i:Bool)(outer:List Env):Bo (keptBack env i outer):=by
 cases outer with
 | nil =>
   rw[keptBack];by_cases z:(env.scope.isGenerator || env.scope.isCoroutine)=true
   . rw[if_pos z];exact Cg _
   . rw[if_neg z];exact JO.bind fun _=>Cg _
 | cons c r=>exact Cg _
theorem M6:∀l:List Env,Bo (readyFrames l)
 | []=>Cg _
 | env::outer=>by
   unfold readyFrames;split
   . refine(l5 _).bind fun o=>?_;split
     . exact Cg _
     . refine(jP _ _).bind fun b=>(bS _ _ _).bind fun v=>(Yl _ (BZ _)).bind fun _=>M6 outer
   . exact Ot _
theorem FD(env:Env):Bo (PySem.frameOf env):=by
 unfold PySem.frameOf;refine l6.bind fun es=>?_;refine Bo.bind ?_ fun o=>?_
 . generalize es.dropWhile _=l;cases l with
   | nil=>exact Cg _
   | cons x r=>exact(M6 _).bind fun _=>Cg _
 . split
   . exact Cg _
   . exact Ot _
theorem Qc(e:Value)(env:Env):Bo (noteFrame e env):=by
 unfold noteFrame;cases env.frame with
 | none=>exact Ot _
 | some f =>
   have tail:∀head:Value,Bo (do let a ←PySem.frameOf env;let pl ←entryPlaceOf f (head != .none);let b ←EntryCells.newEntry head a .none (rawInt f) .none pl;setField e 1 b):=fun head =>
    Bo.bind (FD env) fun a=>Bo.bind (Tf f _) fun pl=>Bo.bind (k9 _ _) fun b=>M5 _ _ _
   refine(Qd e 1).bind fun head=>?_;by_cases z:(head != Value.none)=true
   . rw[if_pos z];refine(Qd head 3).bind fun x=>?_;by_cases y:(x==rawInt f)=true
     . rw[if_pos y];exact Cg _
     . rw[if_neg y];refine(M5 _ _ _).bind fun _=>?_;exact tail head
   . rw[if_neg z];exact tail head
def O5(env:Env)(e:Value):Bo (leaving env e):=by
 unfold leaving;exact(Qc e env).bind fun _=>Ll e none
theorem ObjOk.ob{P:Program}{w:World}{H:Hp}{h:Heap}{a:Addr}{o:HO}(x:ObjOk P w H h a o):∃u,h.get? a=some u:=by
 cases o with
 | lst xs=>obtain⟨_,_,_,_,e⟩:=x;exact⟨_,e⟩
 | tup xs=>obtain⟨_,_,_,ob,e,_⟩:=x;exact⟨_,e⟩
 | dK kvs=>obtain⟨_,_,_,_,ob,_,_,e,_⟩:=x;exact⟨_,e⟩
 | dT kvs=>obtain⟨_,_,_,_,ob,_,_,e,_⟩:=x;exact⟨_,e⟩
 | set S n=>obtain⟨ob,_,_,_,e,_⟩:=x;exact⟨_,e⟩
 | ins C dx fs=>obtain⟨_,_,_,e,_⟩:=x;exact⟨_,e⟩
 | own y=>exact x
 | xd fs=>obtain⟨_,⟨ob,_,_,e,_⟩,_⟩:=x;exact⟨_,e⟩
 | rng lo hi=>obtain⟨_,_,_,e⟩:=x;exact⟨_,e⟩
 | frz ob u=>obtain⟨e,_⟩:=x;exact⟨_,e⟩
 | tbl ps=>exact⟨_,(show h.get? a=some _ from x)⟩
 | met f y=>exact⟨_,(show h.get? a=some _ from x)⟩
 | ext φ=>obtain⟨_,e,_⟩:=x;exact e
structure pN(fs:List Addr)(H H':Hp)(h B h':Heap):Prop where
 kp:∀b o,h.get? b=some o->H b=none->b ∉ fs->B.get? b=some o
 sl:∀b o,h.get? b=some o->H b=none->b∈fs->∃z,h'.get? b=some { o with slots:=z }
 fr:∀b o,h.get? b=some o->H b=none->H' b=none
 th:∀b o,h.get? b=some o->b ∉ fs->∃z,B.get? b=some z
 tu:∀b xs,H b=some (.tup xs)->H' b=some (.tup xs)
 fz:∀b o u,H b=some (.frz o u)->H' b=some (.frz o u)
 tb:∀b ps,H b=some (.tbl ps)->∃more,H' b=some (.tbl (ps++more))
section
variable{fs:List Addr}{H H':Hp}{h B h' h2:Heap}
def pN.un(x:pN fs H H' h B h')(hB:B.StaysIn h2)(hf:∀b∈fs,H b=none)(hs:∀b o,h'.get? b=some o->b∈fs->∃z,h2.get? b=some { o with slots:=z }):Un fs [] H H' h h2 where
 keep:=fun b o e n hb _=>hB b o (x.kp b o e n hb)
 slot:=fun b o e n hb _=>by
  obtain⟨z,e1⟩:=x.sl b o e n hb;obtain⟨z',e2⟩:=hs b _ e1 hb;exact⟨z',e2⟩
 free:=fun b o e n _=>x.fr b o e n
 there:=fun b o e _=>by
  by_cases hb:b∈fs
  . obtain⟨z,e1⟩:=x.sl b o e (hf b hb) hb;obtain⟨z',e2⟩:=hs b _ e1 hb;exact⟨_,e2⟩
  . obtain⟨z,e1⟩:=x.th b o e hb;exact⟨z,hB b z e1⟩
 tups:=x.tu
 frzs:=x.fz
 tbls:=x.tb
def Yu{l:List Env}(ff:h'.FunFrames B l)(up:h'.UpToSlots h2):∀b o,h'.get? b=some o->b∈frs l->∃z,h2.get? b=some { o with slots:=z }:=fun b o e hb=>by
 obtain⟨_,o',e',hd⟩:=ff.mem hb;rw[e]at e';cases e';exact up b o e hd
def pN.next{l:List Env}(x:pN (frs l) H H' h B h')(ff:h'.FunFrames B l)(up:h'.UpToSlots h2):pN (frs l) H H' h B h2 :=
 ⟨x.kp,fun b o e n hb=>by
  obtain⟨z,e1⟩:=x.sl b o e n hb;obtain⟨z',e2⟩:=Yu ff up b _ e1 hb;exact⟨z',e2⟩,x.fr,x.th,x.tu,x.fz,x.tb⟩
end
def ErrD(e:Addr)(dx:OAddr)(h:Heap):Prop:=∃o,h.get? e=some o/\o.dict=dx/\∃vs,o.data=.fields vs/\vs[2]?=some .none
def ErrD.go{e:Addr}{dx:OAddr}{h h':Heap}(x:ErrD e dx h)(k:Dy h h'):ErrD e dx h':=by
 obtain⟨o,e1,d1,vs,f1,g1⟩:=x;obtain⟨o',e2,d2,f2⟩:=k e o e1;obtain⟨vs',f3,g3⟩:=f2 vs f1;exact⟨o',e2,d2.trans d1,vs',f3,g3.trans g1⟩
def PN(P:Program)(w:World):LF:=fun outer H s E u s'=>∃(e:Addr) (cls a0:Value) (B:Heap) (H':Hp) (dx:OAddr),u=.ref e/\s'.os=s.os/\AllBare s'.gens/\pN (frs outer) H H' s.heap B s'.heap/\Md P w H' B/\Heap.FlyingW B outer e cls a0 s'.heap/\ErrD e dx s'.heap/\E cls dx H'
def FlyAt(X:Cx)(Ac:LAObj)(e:Addr)(cls a0:Value)(dx:OAddr)(σ:St)(H':Hp)(s':Shared):Prop :=
 ∃(B:Heap) (H:Hp) (s:Shared),Inv X Ac σ H s/\s'.os=s.os/\AllBare s'.gens/\pN (frs X.stack) H H' s.heap B s'.heap/\Md X.prog X.w H' B/\Heap.FlyingW B X.stack e cls a0 s'.heap/\ErrD e dx s'.heap
abbrev XJ:=Value->OAddr->St->Hp->Prop
def Fly(X:Cx)(J:XJ)(u:Value)(s':Shared):Prop:=∃(e:Addr) (cls a0:Value) (dx:OAddr) (σ:St) (H':Hp),u=.ref e/\FlyAt X [] e cls a0 dx σ H' s'/\J cls dx σ H'
def HP(X:Cx)(J:XJ):Prop:=∀u s',Fly X J u s'->X.xe u s'
def tD(X:Cx)(J:XJ):Prop:=∀(Ac:LAObj) (σ:St) (H:Hp) (s:Shared) (e:Addr) (cls:Value) (vs:List Value) (h':Heap),Inv X Ac σ H s->Heap.MadeExcOf s.heap h' e cls vs->J cls none σ H->X.xe (.ref e) { s with heap:=h' }
noncomputable def YS(e:Addr)(cls:Value):HO:=.ext fun h=>∃o vs,h.get? e=some o/\o.cls=cls/\o.data=.fields vs/\vs[2]?=some .none
noncomputable def excX(e:Addr)(cls:Value):OAddr->HO
 | none=>YS e cls
 | some d=>.ext fun h=>∃o vs,h.get? e=some o/\o.cls=cls/\o.data=.fields vs/\o.dict=some d/\vs[2]?=some .none
section
variable{X:Cx}{Ac:LAObj}{σ:St}{H H':Hp}{s s':Shared}{e:Addr}{cls a0:Value}{dx:OAddr}
def Inv.nopin(I:Inv X Ac σ H s):Inv X [] σ H s:=I.pins_of (fun p hp=>nomatch hp)
def FlyAt.step{B:Heap}{h2:Heap}{S:Shared}(I:Inv X Ac σ H S)(q1:s'.os=S.os)(q2:AllBare s'.gens)(q3:pN (frs X.stack) H H' S.heap B s'.heap)(q4:Md X.prog X.w H' B)(q5:Heap.FlyingW B X.stack e cls a0 s'.heap)
 (f:Heap.FlyingW B X.stack e cls a0 h2) (up:s'.heap.UpToSlots h2) (d:ErrD e dx h2):FlyAt X Ac e cls a0 dx σ H' { s' with heap:=h2 } :=
 ⟨B,H,S,I,q1,q2,q3.next q5.2.2.1 up,q4,f,d⟩
theorem FlyAt.apart{B:Heap}{S:Shared}(q3:pN (frs X.stack) H H' S.heap B s'.heap)(q5:Heap.FlyingW B X.stack e cls a0 s'.heap):S.heap.get? e=none:=by
 cases z:S.heap.get? e with
 | none=>rfl
 | some o =>
   by_cases hb:e∈frs X.stack
   . obtain⟨_,o',e1,hd⟩:=q5.2.2.1.mem hb;obtain⟨oe,vs,e2,_,d2,_⟩:=q5.first;rw[e1]at e2;cases e2;exact absurd d2 (hd vs)
   . obtain⟨o',e1⟩:=q3.th e o z hb;have e2:=q5.2.1;rw[e1]at e2;cases e2
theorem Md.none_of{P:Program}{w:World}{B:Heap}(q:Md P w H' B)(z:B.get? e=none):H' e=none:=by
 cases y:H' e with
 | none=>rfl
 | some o =>
   obtain⟨u,e1⟩:=(q e o y).ob;rw[e1]at z;cases z
def FlyAt.inv(F:FlyAt X Ac e cls a0 dx σ H' s'):Inv X Ac σ H' s'/\H' e=none:=by
 obtain⟨B,H,S,I,q1,q2,q3,q4,q5,_⟩:=F;exact⟨I.call' (ch:=[]) q1 (q3.un q5.1 I.stkFree fun b o e1 _=>⟨o.slots,e1⟩) (q4.kept q5.1) q2 (fun b z=>absurd z (by simp)),q4.none_of q5.2.1⟩
theorem FlyAt.held(F:FlyAt X Ac e cls a0 dx σ H' s'):Inv X Ac σ (upd H' e (excX e cls dx)) s'/\H' e=none:=by
 obtain⟨B,H,S,I,q1,q2,q3,q4,q5,dE⟩:=F;have hn:=q4.none_of q5.2.1;have ha:=FlyAt.apart q3 q5;have ne:∀b u,H' b=some u->b≠e:=fun b u y=>Ap y hn
 have q6:pN (frs X.stack) H (upd H' e (excX e cls dx)) S.heap B s'.heap :=
  ⟨q3.kp,q3.sl,fun b o e1 n=>by
   have:b≠e:=fun z=>by rw[z,ha]at e1;cases e1
   rw[Ai this];exact q3.fr b o e1 n,q3.th,fun b xs y=>by
   have y':=q3.tu b xs y;rw[Ai (ne b _ y')];exact y',fun b o u y=>by
   have y':=q3.fz b o u y;rw[Ai (ne b _ y')];exact y',fun b ps y=>by
   obtain⟨more,y'⟩:=q3.tb b ps y;exact⟨more,by rw[Ai (ne b _ y')];exact y'⟩⟩
 refine⟨I.call' (ch:=[]) q1 (q6.un q5.1 I.stkFree fun b o e1 _=>⟨o.slots,e1⟩) (fun b u y=>?_) q2 (fun b z=>absurd z (by simp)),hn⟩;have hk:=q4.kept q5.1;by_cases hb:b=e
 . subst hb;rw[Ab]at y;cases y;obtain⟨oe,vs,e2,c2,d2,_⟩:=q5.first;obtain⟨o3,e3,d3,vs3,f3,g3⟩:=dE;rw[e2]at e3;cases e3;rw[d2]at f3;cases f3;cases dx with
   | none=>exact⟨⟨oe,vs,e2,c2,d2,g3⟩,⟨oe,e2⟩,fun h1 h2 ⟨o,ws,a1,a2,a3⟩ k=>⟨o,ws,k o a1,a2,a3⟩⟩
   | some d=>exact⟨⟨oe,vs,e2,c2,d2,d3,g3⟩,⟨oe,e2⟩,fun h1 h2 ⟨o,ws,a1,a2,a3,a4⟩ k=>⟨o,ws,k o a1,a2,a3,a4⟩⟩
 . rw[Ai hb]at y;exact(hk b u y).stay (fun _ _ _ q=>q) (fun c q=>by rw[Ai (ne c _ q)];exact q) fun c xs q=>by rw[Ai (ne c _ q)];exact q
end
section
variable{P:Program}{w:World}{K:W.Frag}{mg:Str->Option Value}{base:Heap}{N:List Str}{qual:Str}{scope:Scope}{f:Addr}{cd:Value}{A:Around}{outer:List Env}{s:Shared}{H:Hp}{E:XK}
def u6:frs (envOfC qual scope s.heap.objs.size f cd::outer)=s.heap.objs.size::frs outer:=rfl
def Rx:HP (Vy (PN P w) P w K mg base N qual scope f cd A outer s H E) (fun cls dx _ H'=>E cls dx H'):=by
 rintro u s' ⟨e,cls,a0,dx,σ,H2,rfl,⟨B,H1,s1,I,q1,q2,q3,q4,q5,dE⟩,q6⟩
 have old:∀b o,s.heap.get? b=some o->b ∉ frs outer->b ∉ frs (envOfC qual scope s.heap.objs.size f cd::outer):=fun b o e1 hb z=>by
  rw[u6]at z;rcases qc0.mp z with y | y
  . exact absurd (qa9 e1) (by rw[y];exact qh7 _)
  . exact hb y
 have nx:∀b:Addr,b ∉ ([]:List Addr):=fun b=>by simp
 show wpAny (model P w) (A.deeper (envOfC qual scope s.heap.objs.size f cd)) (leaving (envOfC qual scope s.heap.objs.size f cd) (.ref e)) _ _ s';refine qe2 (D8 (O5 _ _) (wpAny_leaves_onW (E:=fun _ _=>False) (Q:=fun _ s2=>∃h2,s2={ s' with heap:=h2 }/\Heap.FlyingW B outer e cls a0 h2/\s'.heap.UpToSlots h2) (L:=s.heap.objs.size) I.ok.frames rfl q5 fun h2 x1 x2=>⟨h2,rfl,x1,x2⟩)) (fun _ s2 _z=>?_) (fun _ _ z=>z.1.elim);obtain⟨⟨h2,e2,x1,x2⟩,kd⟩:=_z;subst e2;refine⟨e,cls,a0,B,H2,dx,rfl,q1.trans I.os,q2,⟨fun b o e1 n hb=>?_,fun b o e1 n hb=>?_,fun b o e1 n=>?_,fun b o e1 hb=>?_,fun b xs y=>q3.tu b xs (I.base.tups b xs y),fun b o u y=>q3.fz b o u (I.base.frzs b o u y),fun b ps y=>?_⟩,q4,x1,dE.go kd,q6⟩
 . exact q3.kp b o (I.base.keep b o e1 n hb (nx b)) (I.base.free b o e1 n (nx b)) (old b o e1 hb)
 . obtain⟨z,e2⟩:=I.base.slot b o e1 n hb (nx b);have hm:b∈frs (envOfC qual scope s.heap.objs.size f cd::outer):=qb0 _ hb;obtain⟨z',e3⟩:=q3.sl b _ e2 (I.base.free b o e1 n (nx b)) hm;obtain⟨z2,e4⟩:=Yu q5.2.2.1 x2 b _ e3 hm;exact⟨z2,e4⟩
 . obtain⟨o',e2⟩:=I.base.there b o e1 (nx b);exact q3.fr b o' e2 (I.base.free b o e1 n (nx b))
 . obtain⟨o',e2⟩:=I.base.there b o e1 (nx b);exact q3.th b o' e2 (old b o e1 hb)
 . obtain⟨m1,y1⟩:=I.base.tbls b ps y;obtain⟨m2,y2⟩:=q3.tb b _ y1;exact⟨m1++m2,by rw[y2,Array.append_assoc]⟩
def jM:tD (Vy (PN P w) P w K mg base N qual scope f cd A outer s H E) (fun cls dx _ H'=>E cls dx H'):=by
 intro Ac σ H1 s1 e cls vs h' I hx hj;have fin:∀env∈(envOfC qual scope s.heap.objs.size f cd::outer),∀b,env.frame=some b->b∈frs (envOfC qual scope s.heap.objs.size f cd::outer):=fun env he b hb=>qn9.mpr ⟨env,he,hb⟩
 have old:∀b o,s.heap.get? b=some o->b ∉ frs outer->b ∉ frs (envOfC qual scope s.heap.objs.size f cd::outer):=fun b o e1 hb z=>by
  rw[u6]at z;rcases qc0.mp z with y | y
  . exact absurd (qa9 e1) (by rw[y];exact qh7 _)
  . exact hb y
 have nx:∀b:Addr,b ∉ ([]:List Addr):=fun b=>by simp
 have fr1:∀b∈frs (envOfC qual scope s.heap.objs.size f cd::outer),H1 b=none:=I.stkFree;show wpAny (model P w) (A.deeper (envOfC qual scope s.heap.objs.size f cd)) (leaving (envOfC qual scope s.heap.objs.size f cd) (.ref e)) _ _ { s1 with heap:=h' }
 have dE:ErrD e none h':=by
  obtain⟨_,_,t0,hget,_⟩:=hx;exact⟨_,hget,rfl,_,rfl,rfl⟩
 refine qe2 (D8 (O5 _ _) (wpAny_leaves_madeW (E:=fun _ _=>False) (Q:=fun _ s2=>∃h2 t,s2={ s1 with heap:=h2 }/\Heap.FlyingW (PySem.W.hideAll s1.heap (frs (envOfC qual scope s.heap.objs.size f cd::outer))) outer e cls (.ref t) h2/\h'.UpToSlots h2) (L:=s.heap.objs.size) (base:=PySem.W.hideAll s1.heap (frs (envOfC qual scope s.heap.objs.size f cd::outer))) (h:=s1.heap) I.ok.frames rfl (fun b o q=>qr6 _ q) (PySem.W.funFrames_hide I.stack fin) hx fun h2 t x1 x2 x3 x4=>⟨h2,t,rfl,x1,x4⟩)) (fun _ s2 _z=>?_) (fun _ _ z=>z.1.elim);obtain⟨⟨h2,t,e2,x1,x4⟩,kd⟩:=_z;subst e2;refine⟨e,cls,.ref t,_,H1,none,rfl,I.os,I.bare,⟨fun b o e1 n hb=>?_,fun b o e1 n hb=>?_,fun b o e1 n=>I.base.free b o e1 n (nx b),fun b o e1 hb=>?_,I.base.tups,I.base.frzs,I.base.tbls⟩,?_,x1,dE.go kd,hj⟩
 . exact qi0 _ (I.base.keep b o e1 n hb (nx b)) (old b o e1 hb)
 . obtain⟨z,e2⟩:=I.base.slot b o e1 n hb (nx b);obtain⟨_,o',e3,hd⟩:=I.ok.funs.mem hb;have YT:s.heap.get? b=some o':=e3;rw[e1]at YT;cases YT;obtain⟨z2,e4⟩:=x4 b _ (hx.keeps b _ e2) hd;exact⟨z2,e4⟩
 . obtain⟨o',e2⟩:=I.base.there b o e1 (nx b);exact⟨o',qi0 _ e2 (old b o e1 hb)⟩
 . intro a u y;refine(I.hok a u y).stay (fun b v hb q=>qi0 _ q fun hm=>?_) (fun _ q=>q) fun _ _ q=>q;have z:=fr1 b hm;rcases hb with rfl | hb
   . rw[y]at z;cases z
   . rw[hb]at z;cases z
def Ft.okX{x:Str}{st:Stmt}{fd:FuncData}{ps:List Str}{k:Nat}{sp:Sp}(F:Ft K x qual st f fd)(S:FnScope N ps (Al st))(len:∀vs H Q E,sp vs H Q E->vs.length=ps.length)
 (hbody:∀(C7:Value) (A:Around) (outer:List Env) (s:Shared) (H:Hp) (vs:List V) (Q:VK) (E:XK),E5 k (A.deeper (envOfC qual (Al st) s.heap.objs.size f C7))->sp vs H Q E →
   ∃t,dG (Vy (PN P w) P w K mg base N qual (Al st) f C7 A outer s H E) (Bc st) t/\t { nx:=fun _ H'=>Q .non H',rt:=Q } (J9 N vs) H):B4 P w K mg base (PN P w) (k+1) f fd ps sp:=by
 obtain⟨oc,od,kV,doc,pm,an,C7,ct,osl,rfl,lk,hcd⟩:=F.ex;exact SS lk hcd S len fun A outer s H vs Q E hr fL=>hbody C7 A outer s H vs Q E hr fL
end
structure HasX(P:Program)(w:World)(K:W.Frag)(mg:Str->Option Value)(base:Heap)(x:Str)(ps:List Str)(k:Nat)(sp:Sp):Prop where
 ex:∃(f:Addr) (fd:FuncData),mg x=some (.ref f)/\W.keepIn K (.ref f)=true/\Nt K fd ps []/\B4 P w K mg base (PN P w) k f fd ps sp
theorem HasX.down{P:Program}{w:World}{K:W.Frag}{mg:Str->Option Value}{base:Heap}{x:Str}{ps:List Str}{k:Nat}{sp sp':Sp}(h:HasX P w K mg base x ps k sp)(hi:∀vs H Q E,sp' vs H Q E->sp vs H Q (fun _ _ _=>False)):Has P w K mg base x ps k sp':=by
 obtain⟨f,fd,h1,h2,h3,h4⟩:=h.ex;refine⟨f,fd,h1,h2,h3,⟨fun vs H Q E z=>h4.len vs H Q _ (hi vs H Q E z),fun A outer s H args us vs Q E hr he hb hv hs=>codeAny_mono (h4.run A outer s H args us vs Q _ hr he hb hv (hi vs H Q E hs)) fun r s' q=>?_⟩⟩;cases r with
 | error u =>
   obtain⟨_,_,_,_,_,_,_,_,_,_,_,_,_,z⟩:=q;exact z.elim
 | ok fl=>cases fl<;>exact q
def TU(sp:Sp)(J:XJ)(t:TA):TE:=fun σ H Q=>t σ H fun vs H1=>sp vs H1 Q (fun cls dx H2=>J cls dx σ H2)
section
variable{X:Cx}{J:XJ}{x:Str}{ps:List Str}{j k:Nat}{sp:Sp}{p pos:Pos}{e:Expr}{es:List Expr}{t:TA}
theorem PZ{Ac:LAObj}{σ:St}{H:Hp}{s:Shared}{Q:VK}{us:List Value}{vs:List V}{f:Addr}{fd:FuncData}(F:B4 X.prog X.w X.K X.mg X.base (PN X.prog X.w) k f fd ps sp)(hr:E5 k X.A)(hb:Nt X.K fd ps [])(hx:HP X J)
 (I:Inv X Ac σ H s) (r:Vals vs us) (h:sp vs H Q (fun cls dx H2=>J cls dx σ H2)):wpAny (model X.prog X.w) X.A (call (.ref f) us) (EP X Ac σ Q) X.xe s:=by
 have hl:us.length=ps.length:=by rw[←r.length];exact F.len _ _ _ _ h
 have hb1:=hb s us I.kIn (by rw[qf8];exact hl);rw[qf8]at hb1;refine qq0 (codeAny_mono (F.run X.A X.stack s H ⟨us,[]⟩ us vs Q _ hr I.env0 hb1 r h) fun q s' hq=>?_);cases q with
 | error u =>
   obtain⟨e,cls,a0,B,H',dx,rfl,q1,q2,q3,q4,q5,dE,q6⟩:=hq;exact hx _ _ ⟨e,cls,a0,dx,σ,H',rfl,⟨B,H,s,I.nopin,q1,q2,q3,q4,q5,dE⟩,q6⟩
 | ok fl =>
   cases fl with
   | ret u=>exact I.after hq
   | next=>exact False.elim hq
   | brk=>exact False.elim hq
   | cont=>exact False.elim hq
def P5(hx:HP X J)(h:HasX X.prog X.w X.K X.mg X.base x ps j sp)(hr:E5 k X.A)(hg:Gl X x)(ha:PA X (e::es) t)(hk:j<=k:=by decide)(hdb:(x==("__debug__":Str))=false:=by decide)
 (he:starEach (e::es) X.env=(false,eval e X.env)::starEach es X.env:=by rfl) (hpl:(backTo pos (starEach es X.env)).any (·.1)=false:=by rfl):PE X (.Call (.Name x p) (e::es) [] pos) (TU sp J t):=by
 intro Ac s σ H Q I hw;obtain⟨f,fd,h1,h2,h3,h4⟩:=h.ex;refine qi9 (Hr I hg h1 ?_ hdb);refine qm0 (h₀:=X.base) I.ok.mod.kin h2 (Cz (ha pos Ac s σ H _ I hw) fun us s1 ⟨vs,H1,I1,r,q⟩=>⟨I1.kIn,?_⟩) he hpl;exact PZ h4 (hr.mono hk) h3 hx I1 r q
end
abbrev bmV:List Value:=[.type "ValueError",.type "Exception",.type "BaseException",.type "object"]
theorem QI{K:W.Frag}{h:Heap}{C:Addr}{bmB:List Value}{nid:String}(X:K.In h)(z:PySem.W.excIn K C bmB nid=true) :
 ∃bm N nm q bs hdct sn sub ab col dd k0 k1 k2 k3 k5 mN,h.get? C=some (excClassObj nm q C N bs bm hdct sn sub ab col dd k0 k1 k2 k3 k5 nid)/\h.Ns N mN/\mN "__init__"=none/\OwnTail h bmB bm:=by
 unfold PySem.W.excIn at z;split at z
 case h_2=>cases z
 case h_1 dd cd sl ho =>
  split at z
  case h_2=>cases z
  case h_1 C' bm k0 k1 k2 k3 n k5 hm hs =>
   rw[qb4,qb4,qb4,qb4,qb4,beq_iff_eq,beq_iff_eq,Bool.not_eq_true',beq_iff_eq]at z;obtain⟨⟨⟨⟨⟨z1,z2⟩,z3⟩,z4⟩,z5⟩,z6⟩:=z;obtain⟨nm,bs,mro,ns,qn,hd,sn,sub,ab,col,del⟩:=cd;have hm':mro=.ref C'::bm:=hm;have z3':del=false:=z3;subst hm' z3' z1 z2
   have hsl:sl=#[k0,k1,k2,k3,some (.builtin n),k5]:=by
    cases sl with
    | mk l =>
      have:l=[k0,k1,k2,k3,some (.builtin n),k5]:=hs;rw[this]
   subst hsl;exact⟨bm,ns,nm,qn,bs,hd,sn,sub,ab,col,dd,k0,k1,k2,k3,k5,_,X _ _ ho,.of_isNs (PySem.W.isNs_of_in X z5),PySem.W.nsMap_none_of_in X z5 z6,PySem.W.tail_of_in X z4⟩
def TQ(J:XJ)(C:Addr)(t:TA):TS:=fun _ σ H=>t σ H fun vs H1=>vs.length<=sizeLine/\J (.ref C) none σ H1
def lY{X:Cx}{J:XJ}{C:Addr}{x:Str}{np cpos pos:Pos}{e:Expr}{es:List Expr}{t:TA}(hx:tD X J)(hc:X.calm=true)(hg:Gl X x)(hm:X.mg x=some (.ref C))(z:PySem.W.excIn X.K C bmV "ValueError.__new__"=true)(ha:PA X (e::es) t)
 (hdb:(x==("__debug__":Str))=false:=by decide) (he:starEach (e::es) X.env=(false,eval e X.env)::starEach es X.env:=by rfl) (hpl:(backTo cpos (starEach es X.env)).any (·.1)=false:=by rfl) :
 PS X (.Raise (some (.Call (.Name x np) (e::es) [] cpos)) none pos) (TQ J C t):=by
 intro Ac s σ H D I h;obtain⟨bm,N,nm,q,bs,hdct,sn,sub,ab,col,dd,k0,k1,k2,k3,k5,mN,hC,hN,hni,T⟩:=QI I.mod.kin z
 have hp2:(backTo cpos (starEach (e::es) X.env)).any (·.1)=false:=by
  rw[he];show(false || (backTo cpos (starEach es X.env)).any (·.1))=false;rw[hpl];rfl
 refine wpAny_Raise_call_subT PySem.F.excBase_ValueError (C:=C) (nm:=nm) (q:=q) (N:=N) (bs:=bs) (bm:=bm) (hdct:=hdct) (sn:=sn) (sub:=sub) (ab:=ab) (col:=col) (dd:=dd) (k0:=k0) (k1:=k1) (k2:=k2) (k3:=k3) (k5:=k5) (mN:=mN)
  (T.hasType PySem.F.excBase_ValueError.hasBase) (I.ok.hd hc) hp2 hni (Hr I hg hm ⟨rfl,?_⟩ hdb)
 have a1:=Cz (ha cpos Ac s σ H _ I h) (Q':=fun us s2=>(⟨us,[]⟩:Args).kw=[]/\us.length<=sizeLine/\s2.heap.get? C=some (excClassObj nm q C N bs bm hdct sn sub ab col dd k0 k1 k2 k3 k5 "ValueError.__new__")/\s2.heap.Ns N mN/\OwnTail s2.heap bmV bm ∧
  ∀h' e,Heap.MadeExcOf s2.heap h' e (.ref C) us->X.xe (.ref e) { s2 with heap:=h' }) fun us s2 ⟨vs,H1,I1,r,hl,hj⟩ =>
  ⟨rfl,by rw[←r.length];exact hl,I1.bk _ _ hC,hN.keeps I1.bk,T.keeps I1.bk,fun h' e2 vI=>hx Ac σ H1 s2 e2 _ _ h' I1 vI hj⟩
 rw[he]at a1 ⊢;exact ql6 a1
end L2
namespace L2
open PySem PySem.Spec PyProof.Rows PySem.W
section
variable{X:Cx}{Ac pn:LAObj}{σ:St}{H:Hp}{s:Shared}{J:XJ}
noncomputable abbrev Cx.pinned(X:Cx)(pn:LAObj):Cx:={ X with pn:=X.pn++pn }
theorem Cx.Ok.pinned(ok:X.Ok)(pn:LAObj):(X.pinned pn).Ok :=
 ⟨ok.mod,ok.kind,ok.glob,ok.blt,ok.above,ok.inj,ok.has,ok.cab,ok.hd,ok.frames,ok.stk,ok.exf,ok.bs,ok.bsz,ok.noex,ok.exfs,ok.funs,ok.frf⟩
def Cx.Ok.unpinned'(ok:(X.pinned pn).Ok):X.Ok :=
 ⟨ok.mod,ok.kind,ok.glob,ok.blt,ok.above,ok.inj,ok.has,ok.cab,ok.hd,ok.frames,ok.stk,ok.exf,ok.bs,ok.bsz,ok.noex,ok.exfs,ok.funs,ok.frf⟩
def Inv.toPn(I:Inv X Ac σ H s):Inv (X.pinned Ac) [] σ H s:=⟨I.ok.pinned _,I.os,I.bare,I.base,I.loc,I.cell,I.free,I.freeC,fun p hp=>I.pin p (by simpa using hp),I.hok,I.len⟩
def Inv.ofPn(I:Inv (X.pinned Ac) [] σ H s):Inv X Ac σ H s:=⟨I.ok.unpinned',I.os,I.bare,I.base,I.loc,I.cell,I.free,I.freeC,fun p hp=>I.pin p (by simpa using hp),I.hok,I.len⟩
noncomputable abbrev Cx.tried(X:Cx)(pn:LAObj)(J:XJ):Cx:=(X.pinned pn).wish (Fly (X.pinned pn) J)
def cB:HP (X.tried pn J) J:=fun u s' ⟨e,cls,a0,dx,σ,H',h1,⟨B,H,S,I,q⟩,h3⟩=>⟨e,cls,a0,dx,σ,H',h1,⟨B,H,S,I.unwish,q⟩,h3⟩
noncomputable abbrev Cx.suite(X:Cx)(e:Addr):Cx:={ X with A:=X.A.mark (some (.ref e)),calm:=false,xe:=fun _ _=>False }
theorem Cx.Ok.suite(ok:X.Ok)(e:Addr):(X.suite e).Ok :=
 ⟨ok.mod,ok.kind,ok.glob,ok.blt,ok.above,ok.inj,ok.has,ok.cab,fun z=>Bool.noConfusion z,ok.frames,ok.stk,ok.exf,ok.bs,ok.bsz,ok.noex,ok.exfs,ok.funs,ok.frf⟩
theorem Inv.suite(I:Inv X Ac σ H s)(e:Addr):Inv (X.suite e) Ac σ H s:=⟨I.ok.suite e,I.os,I.bare,I.base,I.loc,I.cell,I.free,I.freeC,I.pin,I.hok,I.len⟩
def Inv.unsuite{e:Addr}(ok:X.Ok)(I:Inv (X.suite e) Ac σ H s):Inv X Ac σ H s:=⟨ok,I.os,I.bare,I.base,I.loc,I.cell,I.free,I.freeC,I.pin,I.hok,I.len⟩
def iC{M:Model}{A:Around}{E:Value->Shared->Prop}{i:Nat}{n:Str}{pos:Pos}{Q:Unit->Shared->Prop}(I:Inv X Ac σ H s)(hN:X.N.Nodup)(hi:X.N[i]?=some n)(hk:X.env.kindOf n=some .local)
 (h:∀s',Inv X Ac (σ.set i none) H s'->Q () s'):wpAny M A (do bindName X.env n .none;unbindBehindTheSuite X.env n pos) Q E s:=by
 obtain⟨m,hn,hl⟩:=id I.loc;have hcls:(X.env.scope.kind==.class || (X.env.scope.kind==.module&&X.env.locals != X.env.globals))=false:=by rw[I.ok.kind];rfl
 refine wpAny_nameGoes_keeps hk hn hcls fun h' v hn' hs=>h _ ?_;have lt:∀b o,X.s₀.heap.get? b=some o->b≠X.env.locals:=fun b o e=>qb8 (qc5 (qa9 e) I.ok.above);refine⟨I.ok,I.os,I.bare,⟨fun b o e z hb hx=>(hs.2 b (lt b o e)).trans (I.base.keep b o e z hb hx),fun b o e z hb hx=>?_,I.base.free,fun b o e hx=>?_,I.base.tups,I.base.frzs,I.base.tbls⟩,⟨_,hn',fun j y v' e1 e2 e3=>?_⟩,fun y c e=>?_,I.free,I.freeC,fun p hp=>?_,fun b o e=>?_,by simpa using I.len⟩
 . obtain⟨sl,e1⟩:=I.base.slot b o e z hb hx;exact⟨sl,(hs.2 b (lt b o e)).trans e1⟩
 . obtain⟨o',e1⟩:=I.base.there b o e hx;exact⟨o',(hs.2 b (lt b o e)).trans e1⟩
 . have hj:i≠j:=by
    rintro rfl;rw[List.getElem?_set]at e2;simp at e2
   rw[qr0 hj]at e2;obtain⟨u,r,q⟩:=hl j y v' e1 e2 e3;refine⟨u,r,?_⟩;rcases q with⟨k,z⟩|⟨k,c,z,w'⟩
   . have:y≠n:=fun z'=>hj (Uv hN hi (z'▸e1));exact .inl ⟨k,by simp[this,z]⟩
   . exact .inr ⟨k,c,z,w'.sameBut hs (I.cne y c z)⟩
 . obtain⟨w',z⟩:=I.cell y c e;exact⟨w',z.sameBut hs (I.cne y c e)⟩
 . obtain⟨e,z,ne,nf,d⟩:=I.pin p hp;exact⟨(hs.2 p.1 ne).trans e,z,ne,nf,d⟩
 . refine(I.hok b o e).stay (fun c w' hc q=>(hs.2 c ?_).trans q) (fun _ q=>q) fun _ _ q=>q;rintro rfl;have hf:=I.free;rcases hc with rfl | hc
   . rw[hf]at e;cases e
   . rw[hf]at hc;cases hc
end
def PH(X:Cx)(hs:List ExceptHandler)(th:Ends->XJ):Prop:=∀(Ac:LAObj) (s:Shared) (σ:St) (H:Hp) (D:Ends) (e:Addr) (cls a0:Value) (dx:OAddr),FlyAt X Ac e cls a0 dx σ H s->th D cls dx σ H →
 wpAny (model X.prog X.w) X.A (handleBy (.ref e) X.env hs) (SP X Ac D) X.xe s
def hNo:Ends->XJ:=fun _ _ _ _ _=>False
def qG{X:Cx}:PH X [] hNo:=fun _ _ _ _ _ _ _ _ _ _ h=>h.elim
noncomputable def OZ(i:Nat)(D:Ends):Ends:={ nx:=fun σ H=>D.nx (σ.set i none) H,rt:=D.rt,bk:=fun σ H=>D.bk (σ.set i none) H,ct:=fun σ H=>D.ct (σ.set i none) H }
def hAs(K:Frag)(C:Addr)(i:Nat)(ts:TS)(th:Ends->XJ):Ends->XJ:=fun D cls dx σ H=>∃(C':Addr) (b:Bool),cls=.ref C'/\subIn K (.ref C') (.ref C)=some b ∧
 if b=true then ∀e,H e=none->ts (OZ i D) (σ.set i (some (.ref e))) (upd H e (excX e cls dx)) else th D cls dx σ H
def JX{M:Model}{A:Around}{E:Value->Shared->Prop}{nm q:Str}{C C' N:Addr}{bs bm:List Value}{hdct:Bool}{sn:List Str}{sub:List Value}{ab:Bool}{col:Option Bool}{dd:OAddr}{k0 k1 k2 k3 k5:Option Value}{nid:String}
 {h:Heap}{g:Array GenState}{d:Drawn}{t:Nat}{os:OsState}{e:Addr}{oe:Obj}{b:Bool}{Q:Bool->Shared->Prop} (hC:h.get? C=some (excClassObj nm q C N bs bm hdct sn sub ab col dd k0 k1 k2 k3 k5 nid))
 (he:h.get? e=some oe) (hcls:oe.cls=.ref C') (hbase:bm.contains (.type "BaseException")=true) (LS:Looks M h (isSubtype (.ref C') (.ref C)) b) (hq:Q b ⟨h,g,d,t,os⟩):wpAny M A (excMatches (.ref e) (.ref C)) Q E ⟨h,g,d,t,os⟩:=by
 have hb2:(Value.ref C::bm).contains (.type "BaseException")=true:=by rw[qs0,hbase,Bool.or_true]
 have tnt:=tc_notTuple;unfold excMatches
 repeat (first | (with_reducible refine qe9 he ?_;rw[hcls]) | with_reducible refine qe9 hC ?_ | (with_reducible refine wpAny_isSubtype_exc hC ?_;rw[hb2]) | with_reducible refine LS.at ?_ | wp_step)
 cases b<;>(wp_walk;exact hq)
section
variable{X:Cx}{th:Ends->XJ}
theorem SE{x n:Str}{i:Nat}{C:Addr}{np hpos:Pos}{b0:Stmt}{bs:List Stmt}{ts:TS}{rest:List ExceptHandler}(hN:X.N.Nodup)(hi:X.N[i]?=some n)(hk:X.env.kindOf n=some .local)(hg:Gl X x)(hm:X.mg x=some (.ref C))(hC:ktsIn X.K C "BaseException"=true)
 (hs:∀e,dG (X.suite e) (b0::bs) ts) (hr:PH X rest th) (hdb:(x==("__debug__":Str))=false:=by decide):PH X (.ExceptHandler (some (.Name x np)) (some n) (b0::bs) hpos::rest) (hAs X.K C i ts th):=by
 intro Ac s σ H D e cls a0 dx F h;obtain⟨C',b,rfl,hb,h⟩:=h;have I:=F.inv.1;obtain⟨nm,qn,N,bs',bm,hdct,sn,sub,ab,col,dd,k0,k1,k2,k3,k5,nid,yM,hbase,_⟩:=kts_cls I.kIn hC;have F':=F;obtain⟨B,H0,S,I0,q1,q2,q3,q4,q5,dE⟩:=F';obtain⟨oe,he,hcls⟩:=q5.there;refine wpAny_handleBy_cons (codeAny_handlers_test (Hr (X:=X.suite e) (I.suite e) hg hm ?_ hdb)) (by intro q;cases q);have LS:Looks (model X.prog X.w) s.heap (isSubtype (.ref C') (.ref C)) b:=looks_subIn I.kIn hb;obtain⟨sh,sg,sd,st,so⟩:=s;refine JX yM he hcls hbase LS ?_;cases b with
 | false =>
   rw[if_neg qc2]at h;exact hr Ac _ σ H D e _ a0 dx F h
 | true =>
   rw[if_pos rfl]at h;refine codeAny_handlers_suite_as ?_;refine qe2 (D8 (Ll _ _) (lands_againW (E:=fun _ _=>False) (Q:=fun _ s2=>∃h6,s2={ (⟨sh,sg,sd,st,so⟩:Shared) with heap:=h6 }/\Heap.FlyingW B X.stack e (.ref C') a0 h6/\sh.UpToSlots h6) q5 fun h6 f6 zV=>⟨h6,rfl,f6,zV⟩)) (fun _ s2 _z=>?_) (fun _ _ z=>z.1.elim);obtain⟨⟨h6,e6,f6,zV⟩,kd⟩:=_z;subst e6;have F6:=FlyAt.step I0 q1 q2 q3 q4 q5 f6 zV (dE.go kd);obtain⟨I6,hn⟩:=F6.held;refine Ub (v:=.ref e) I6 hN hi (.inl hk) rfl (fun s7 I7=>?_) (.inr hk);refine qe2 (hs e Ac s7 _ _ (OZ i D) (I7.suite e) (h e hn)) (fun f s8 q=>?_) fun _ _ z=>z.elim
   have go:∀{σ':St}{H':Hp}{f:Flow},Inv (X.suite e) Ac σ' H' s8->(∀s9,Inv X Ac (σ'.set i none) H' s9->SP X Ac D f s9)->wpAny (model X.prog X.w) X.A (do bindName X.env n .none;unbindBehindTheSuite X.env n hpos) (fun _ s9=>SP X Ac D f s9) X.xe s8 :=
    fun {σ' H' f} I8 k=>iC (I8.unsuite I.ok) hN hi hk k
   cases f with
   | next=>obtain⟨σ',H',I8,q⟩:=q;exact go I8 fun s9 I9=>⟨_,H',I9,q⟩
   | brk=>obtain⟨σ',H',I8,q⟩:=q;exact go I8 fun s9 I9=>⟨_,H',I9,q⟩
   | cont=>obtain⟨σ',H',I8,q⟩:=q;exact go I8 fun s9 I9=>⟨_,H',I9,q⟩
   | ret u=>obtain⟨v,σ',H',I8,r,q⟩:=q;exact go I8 fun s9 I9=>⟨v,_,H',I9,r,q⟩
def ZY(tb:XJ->TS)(th:Ends->XJ):TS:=fun D σ H=>tb (th D) D σ H
theorem UC{tb:XJ->TS}{body:List Stmt}{h0:ExceptHandler}{hs:List ExceptHandler}{pos:Pos}(hb:∀pn J,dG (X.tried pn J) body (tb J))(hh:PH X (h0::hs) th)(VF:X.stack=X.env::X.outer:=by rfl)(hfr:X.env.frame=some X.env.locals:=by rfl) :
 PS X (.Try body (h0::hs) [] [] pos) (ZY tb th):=by
 intro Ac s σ H D I h;refine wpAny_Try_except (qe2 (hb Ac (th D) [] s σ H D (I.toPn.wish _) h) (fun f s1 q=>?_) fun u s1 q=>?_)
 . cases f with
   | next=>obtain⟨σ',H',I',q⟩:=q;exact qo3 ⟨σ',H',I'.unwish.ofPn,q⟩
   | brk=>obtain⟨σ',H',I',q⟩:=q;exact⟨σ',H',I'.unwish.ofPn,q⟩
   | cont=>obtain⟨σ',H',I',q⟩:=q;exact⟨σ',H',I'.unwish.ofPn,q⟩
   | ret u=>obtain⟨v,σ',H',I',r,q⟩:=q;exact⟨v,σ',H',I'.unwish.ofPn,r,q⟩
 . obtain⟨e,cls,a0,dx,σ',H',rfl,⟨B,H1,S,I1,q1,q2,q3,q4,q5,dE⟩,hj⟩:=q;have q5':Heap.FlyingW B (X.env::X.outer) e cls a0 s1.heap:=VF▸q5;refine qe2 (D8 (Qc _ _) (wpAny_looks_onW (E:=fun _ _=>False) (Q:=fun _ s2=>∃h4,s2={ s1 with heap:=h4 }/\Heap.HeldW B (X.env::X.outer) e cls a0 X.env.locals h4/\s1.heap.UpToSlots h4) (L:=X.env.locals) (I.ok.frames.trans (congrArg some VF)) hfr q5' fun h4 NU zW=>⟨h4,rfl,NU,zW⟩)) (fun _ s2 _z=>?_) (fun _ _ z=>z.1.elim);obtain⟨⟨h4,e4,NU,zW⟩,kd4⟩:=_z;subst e4;refine qe2 (D8 (Ll _ _) (wpAny_landsW (E:=fun _ _=>False) (Q:=fun _ s2=>∃h5,s2={ s1 with heap:=h5 }/\Heap.FlyingW B (X.env::X.outer) e cls a0 h5/\h4.UpToSlots h5) NU fun h5 fl5 ZV=>⟨h5,rfl,fl5,ZV⟩)) (fun _ s2 _z=>?_) (fun _ _ z=>z.1.elim);obtain⟨⟨h5,e5,fl5,ZV⟩,kd5⟩:=_z;subst e5;exact hh Ac _ σ' H' D e cls a0 dx (FlyAt.step (s':=s1) I1.ofPn q1 q2 q3 q4 q5 (VF▸fl5) (zW.trans ZV) (dE.go (kd4.trans kd5))) hj
end
structure ExcC(K:Frag)(C:Addr):Prop where
 cls:ktsIn K C "BaseException"=true
 ga:findIn K (.ref C) "__getattribute__"=some (some (.builtin "BaseException.__getattribute__"))
 gt:findIn K (.ref C) "__getattr__"=some none
 cl:findIn K (.ref C) "__class__"=some (some (.builtin "object.__class__"))
 ob:subIn K (.ref C) (.type "object")=some true
 be:subIn K (.ref C) (.type "BaseException")=some true
section
variable{prog:Program}{w:World}{A:Around}{E:Value->Shared->Prop}{h:Heap}{g:Array GenState}{d:Drawn}{t:Nat}{os:OsState}{a C:Addr}{o:Obj}{K:Frag}
def LG{R:Result->Shared->Prop}(X:K.In h)(Z:ExcC K C)(hx:h.get? a=some o)(hc:o.cls=.ref C)(hq:R (.ok (.ret (.ref C))) ⟨h,g,d,t,os⟩) :
 codeAny (model prog w) A (.call (.builtin "getset_descriptor.__get__") ⟨[.builtin "object.__class__",.ref a,.ref C],[]⟩) R ⟨h,g,d,t,os⟩:=by
 have ht:(⟨h,g,d,t,os⟩:Shared).TypeIs (.builtin "object.__class__") "getset_descriptor":=qs3;have LS:Looks (model prog w) h (isSubtype (.ref C) (.type (".".intercalate ("object.__class__".cutAt '.').dropLast))) true:=by rw[F.owner_object_class];exact looks_subIn X Z.ob
 refine codeAny_call_builtin F.slot_gs_get.plain F.entry_gs_get (F.slot_gs_get.check _ _ _ _ _ _ _ _ ht (F.args_gs_get _ _ _) ?_)
 repeat (any_goals (first | assumption | (with_reducible refine qe9 hx ?_;rw[hc]) | with_reducible refine LS.at ?_ | wp_step))
 refine⟨Code.quiet_builtin _ (by decide +kernel),codeAny_builtin F.entry_object_class ?_⟩
 repeat (any_goals (first | assumption | (with_reducible refine qe9 hx ?_;rw[hc]) | wp_step))
def DN{tk:Tok}{Q:PySem.Fin->Shared->Prop}(X:K.In h)(Z:ExcC K C)(hx:h.get? a=some o)(hc:o.cls=.ref C)(hq:Q (.done (.ret (.ref C))) ⟨h,g,d,t,os⟩) :
 wpAny (model prog w) A (Builtin.«object.__getattribute__» ⟨[.ref a,.str "__class__" tk],[]⟩) Q E ⟨h,g,d,t,os⟩:=by
 have ht:(⟨h,g,d,t,os⟩:Shared).TypeIs (.builtin "object.__class__") "getset_descriptor":=qs3;have L1:Looks (model prog w) h (typeLookup (.ref C) "__class__") (some (.builtin "object.__class__")):=looks_findIn X Z.cl;have f5:=qs3;have f6:=F.slot_gs_get.lookup;have f7:=F.slot_gs_set.lookup
 repeat (any_goals (first | assumption | (with_reducible refine qe9 hx ?_;rw[hc]) | with_reducible refine L1.at ?_ | wp_step))
 refine LG X Z hx hc ?_
 repeat (any_goals (first | assumption | wp_step))
def T4{M:Model}{nameV:Value}{Q:Unit->Shared->Prop}(X:K.In h)(Z:ExcC K C)(hx:h.get? a=some o)(hc:o.cls=.ref C)(hq:Q () ⟨h,g,d,t,os⟩) :
 wpAny M A (checkBuiltinCall "BaseException.__getattribute__" ⟨[.ref a,nameV],[]⟩) Q E ⟨h,g,d,t,os⟩:=by
 have hk:builtinKind "BaseException.__getattribute__"=some .slot:=by decide +kernel
 have fL:splitId "BaseException.__getattribute__"=some ("BaseException","__getattribute__"):=by decide +kernel
 have LS:Looks M h (isSubtype (.ref C) (.type "BaseException")) true:=looks_subIn X Z.be;have ha:=F.args_bexc_ga (.ref a) nameV;simp only[checkBuiltinCall,hk,fL];refine qa1 ?_;unfold isInstance
 repeat (first | (with_reducible refine qe9 hx ?_;rw[hc]) | with_reducible refine LS.at ?_ | wp_step)
 exact hq
def iA{tk:Tok}{R:Result->Shared->Prop}(X:K.In h)(Z:ExcC K C)(hx:h.get? a=some o)(hc:o.cls=.ref C)(hq:R (.ok (.ret (.ref C))) ⟨h,g,d,t,os⟩) :
 codeAny (model prog w) A (.call (.builtin "BaseException.__getattribute__") ⟨[.ref a,.str "__class__" tk],[]⟩) R ⟨h,g,d,t,os⟩ :=
 codeAny_call_builtin F.attr_ValueError.ga.plain F.entry_bexc_ga (T4 X Z hx hc (DN X Z hx hc hq))
def pP{tk:Tok}{fill expr:Bool}{Q:Value->Shared->Prop}(X:K.In h)(Z:ExcC K C)(hx:h.get? a=some o)(hc:o.cls=.ref C)(hq:Q (.ref C) ⟨h,g,d,t,os⟩) :
 wpAny (model prog w) A (getAttrBy (.ref a) (.str "__class__" tk) fill expr) Q E ⟨h,g,d,t,os⟩:=by
 have f3:=F.attr_ValueError.ga.bind (.ref a);have hx0:(expr&&onTheHeap (Value.builtin "BaseException.__getattribute__"))=false:=by cases expr<;>rfl
 have JU:(Value.builtin "BaseException.__getattribute__"==Value.builtin "object.__getattribute__")=false:=by decide +kernel
 have hx1:(onTheHeap (Value.ref C)&&Value.builtin "BaseException.__getattribute__"==Value.builtin "object.__getattribute__")=false:=by rw[JU];rfl
 have L1:Looks (model prog w) h (typeLookup (.ref C) "__getattribute__") (some (.builtin "BaseException.__getattribute__")):=looks_findIn X Z.ga;have yZ:Looks (model prog w) h (typeLookup (.ref C) "__getattr__") none:=looks_findIn X Z.gt
 repeat (any_goals (first | assumption | (with_reducible refine qe9 hx ?_;rw[hc]) | with_reducible refine L1.at ?_ | with_reducible refine yZ.at ?_ | wp_step))
 refine iA X Z hx hc ?_
 repeat (any_goals (first | assumption | wp_step))
def IA{Q:Option Value->Shared->Prop}(X:K.In h)(Z:ExcC K C)(hx:h.get? a=some o)(hc:o.cls=.ref C)(hq:Q (some (.ref C)) ⟨h,g,d,t+1,os⟩):wpAny (model prog w) A (getAttr? (.ref a) "__class__") Q E ⟨h,g,d,t,os⟩:=by
 unfold getAttr? getAttrBy?
 repeat (any_goals (first | assumption | with_reducible apply pP X Z hx hc | wp_step))
def bR(Z:ExcC K C):KitX K (.ref a) (.ref C) (fun h=>∃o,h.get? a=some o/\o.cls=.ref C) where
 ty:=fun M h X ⟨o,e,c⟩=>by
  have:=(Looks.ld (M:=M) (part:=none) e).andThen (f:=fun ob=>pure ob.cls) .now;rw[c]at this;exact this
 it:=fun M h X _=>by
  obtain⟨nm,qn,N,bs',bm,hdct,sn,sub,ab,col,dd,k0,k1,k2,k3,k5,nid,yM,_,_⟩:=kts_cls X Z.cls;intro A' Q' E' s' k q;unfold isType loadHead;exact qa1 (wpAny_loadPart (k _ _ yM) (qa6 q))
 ne:=fun h tp dd its n sl X htp=>by
  obtain⟨nm,qn,N,bs',bm,hdct,sn,sub,ab,col,dd,k0,k1,k2,k3,k5,nid,yM,_,_⟩:=kts_cls X Z.cls;refine qt0.mpr fun q=>?_;have e:C=tp:=Value.ref.inj (beq_iff_eq.mp q);subst e;have z:=congrArg Obj.cls (qd4 (yM.symm.trans htp));have z2:("type":String)="tuple":=by injection z
  exact absurd z2 (by decide)
 ca:=fun {prog w A E Q s} X ⟨o,e,c⟩ k=>by
  obtain⟨sh,sg,sd,st,so⟩:=s;exact IA X Z e c k
end
section
variable{X:Cx}{K:Frag}
def fE(hK:X.K=K:=by rfl):CallR X (.builtin "isinstance") (fun xs H Q=>∃(e C:Addr) (y:V) (c:Value) (b:Bool),xs=[.ref e,y]/\RelV y c/\(∀u,RelV y u->u=c)/\H e=some (YS e (.ref C))/\ExcC K C/\kitOne K (.ref C) c=some b/\Q (.bl b) H):=by
 subst hK;intro Ac s σ H xs us Q I r h;obtain⟨e,C,y,c,b,rfl,_,hy,hH,Z,kk,q⟩:=h;obtain⟨u,v,rfl,rx,rt⟩:=Op r;cases rx;cases hy v rt;have ho:=I.hok e _ hH;obtain⟨⟨o,vs,e1,c1,_⟩,_⟩:=ho;exact kia_one (bR Z) I.kIn ⟨o,e1,c1⟩ kk (fun z=>nomatch z) fun tk=>⟨.bl b,H,I.tok tk,rfl,q⟩
def Cu{D:Addr}:∀u,RelV (.ref D) u->u=.ref D:=fun u h=>h
def pQ{n:String}:∀u,RelV (.ty n) u->u=.type n:=fun u h=>h
end
end L2
namespace L2
open PySem PySem.Spec PyProof.Rows
noncomputable def WR(K:W.Frag)(a:Addr):It :=
 ⟨fun i H=>∃xs x,SqL K H a xs/\xs[i]?=some x,fun i H x H'=>∃p v,H p=none/\x=.ref p/\H'=upd H p (.tup [.int i,v])/\∀xs,SqL K H a xs->xs[i]?=some v,fun i H=>∃xs,SqL K H a xs/\xs.length<=i⟩
def iD{P:Program}{w:World}{K:W.Frag}{es:List Expr}{x1:Nat}{tpos:Pos}(a e it:Addr)(hne:e≠it):Xt P w K (.Tuple es x1 tpos) (WR K a) [e,it] e (fun i h=>(∃old,IsEnum h e it (i:Int) old)/\h.IsListIter it a i) where
 mem:=by simp
 obj:=fun i h st b hb=>by
  obtain⟨⟨old,h1⟩,o,h2,c,d⟩:=st;rcases qc0.mp hb with rfl | hb
  . exact⟨_,h1,fun v z=>by cases (show Data.fields _=Data.cell v from z)⟩
  . have z:b=it:=by simpa using hb
    subst z;exact⟨o,h2,fun v z=>by rw[d]at z;cases z⟩
 keep:=fun i h h' st k=>by
  obtain⟨⟨old,h1⟩,h2⟩:=st;exact⟨⟨old,k e (by simp) _ h1⟩,h2.at fun o z=>k it (by simp) o z⟩
 item:=by
  intro X hP hw hK hc i Ac s σ H E I hf st hg;subst hP hw hK;obtain⟨⟨old,h1⟩,h2⟩:=st;obtain⟨xs,x,hq,hx⟩:=hg;obtain⟨its,rv,p,hz⟩:=I.list hq;obtain⟨u,hu,ru⟩:=rv.get hx;have fe:=hf e (by simp);have fi:=hf it (by simp);have XW:e<s.heap.objs.size:=qa9 h1;have hfresh:H s.heap.objs.size=none:=I.hok.fresh (qa8 _);refine wpAny_pyNext_enum_item h1 h2 p.isList (x:=u) (by simpa using hu) hne fun h' hout VJ htup hsz hk=>?_;refine⟨_,rfl,wpAny_letOwnedTupleGo_enum hout fun h3 hen Th=>?_⟩
  replace Th:Heap.SameBut e h' h3:=Th
  have kk:∀b o,b≠e->b≠it->s.heap.get? b=some o->h3.get? b=some o:=fun b o n1 n2 z=>(Th.2 b n1).trans (hk b o n1 n2 z);have vF:h3.get? s.heap.objs.size=some { cls:=.type "tuple",data:=.seq #[.int i s.toks,u] }:=(Th.2 _ (qi5 XW)).trans htup;have hi3:h3.IsListIter it a (i+1):=VJ.at fun o z=>(Th.2 it hne.symm).trans z;have j6:∀b,b ∉ [e,it]->b≠e/\b≠it:=fun b hb=>by simpa using hb
  have AI:∀b v,H b=some v->b≠e/\b≠it:=fun b v z=>⟨Ap z fe.1,Ap z fi.1⟩
  have Uu:∀b v,H b=some v->b≠s.heap.objs.size:=fun b v z=>Ap z hfresh;refine⟨.ref s.heap.objs.size,upd H s.heap.objs.size (.tup [.int i,x]),?_,rfl,⟨s.heap.objs.size,x,hfresh,rfl,rfl,fun ys hy=>by rw[I.list_inj hy hq];exact hx⟩,⟨⟨_,hen⟩,hi3⟩,fun b hb=>?_⟩
  . refine Inv.step (s:=s) (h':=h3) (t':=s.toks+1) (H':=upd H s.heap.objs.size (.tup [.int i,x])) I (g':=s.gens) (d':=s.drawn) (ch:=[e,it]) (fun b hb=>?_) (fun b o _ _ hb z _=>kk b o (j6 b hb).1 (j6 b hb).2 z) (fun b o _ _ hb z _=>⟨o.slots,kk b o (j6 b hb).1 (j6 b hb).2 z⟩) (fun b o hb z n=>?_) (fun b o hb z=>⟨o,kk b o (j6 b hb).1 (j6 b hb).2 z⟩)
     (fun b ys z=>by rw[Ai (Uu b _ z)];exact z) (fun b o v z=>by rw[Ai (Uu b _ z)];exact z) (fun b ps z=>⟨#[],by rw[Ai (Uu b _ z),z];simp⟩) (fun m hm=>?_) (fun b v z=>?_) I.bare
    . rcases qc0.mp hb with rfl | hb
      . exact⟨fe.2.2.2.1,fe.2.1,fe.2.2.2.2.1,fe.2.2.2.2.2⟩
      . have z:b=it:=by simpa using hb
        subst z;exact⟨fi.2.2.2.1,fi.2.1,fi.2.2.2.2.1,fi.2.2.2.2.2⟩
    . rw[Ai (qb8 (qa9 z))];exact n
    . obtain⟨o,es',ep,ho,r⟩:=hm;exact⟨o,es',ep,kk _ o fe.2.1.symm fi.2.1.symm ho,r⟩
    . by_cases hb:b=s.heap.objs.size
      . subst hb;rw[Ab]at z;cases z;exact⟨(by show(2:Nat)<=sizeLine;decide),[.int i s.toks,u],.cons ⟨_,rfl⟩ (.cons ru .nil),⟨_,vF,rfl,rfl,_,rfl⟩⟩
      . rw[Ai hb]at z;refine(I.hok b v z).stay (fun c y hc' q=>?_) (fun c q=>by rw[Ai (Uu c _ q)];exact q) fun c ys q=>by rw[Ai (Uu c _ q)];exact q
        rcases hc' with rfl | hc'
        . exact kk _ _ (AI _ _ z).1 (AI _ _ z).2 q
        . exact kk _ _ (AI _ _ hc').1 (AI _ _ hc').2 q
  . have lb:b<s.heap.objs.size:=by
     rcases qc0.mp hb with rfl | hb
     . exact XW
     . have z:b=it:=by simpa using hb
       subst z;obtain⟨o,z,_⟩:=h2;exact qa9 z
    rw[Ai (qb8 lb)];exact(hf b hb).1
 done:=by
  intro X hP hw hK hc i Ac s σ H E I hf st hg;subst hP hw hK;obtain⟨⟨old,h1⟩,h2⟩:=st;obtain⟨xs,hq,hx⟩:=hg;obtain⟨its,rv,p,hz⟩:=I.list hq;obtain⟨f0,f1,f2,f3,f4,f5⟩:=hf it (by simp);have hl:=rv.length;exact wpAny_pyNext_enum_end (I.ok.hd hc) h1 h2 p.isList (by simp;omega) fun h' eb=>⟨rfl,I.turned (t':=s.toks) (fun b o hb z=>eb b o hb z) f0 f1 f3 f4 f5⟩
 self:=fun _ _ _ _ _ st h=>by
  obtain⟨⟨old,h1⟩,h2⟩:=st;exact qp9 h1 h
def XZ(K:W.Frag)(ta:TA):TI:=fun σ H R=>ta σ H fun vs H1=>∃a,vs=[.ref a]/\(∃xs,SqL K H1 a xs)/\R (WR K a) H1
def Tk:bootBuiltins "enumerate"=some (.type "enumerate"):=by decide +kernel
theorem GL{X:Cx}{K:W.Frag}{es:List Expr}{x1:Nat}{tpos:Pos}{a:Expr}{ta:TA}{p pos:Pos}(hg:Gl X "enumerate")(hm:X.mg "enumerate"=none)(ha:PA X [a] ta)(hK:X.K=K:=by rfl)(hs:starEach [a] X.env=[(false,eval a X.env)]:=by rfl):PI X (.Tuple es x1 tpos) (.Call (.Name "enumerate" p) [a] [] pos) (XZ K ta):=by
 subst hK;intro Ac s σ H R I h;refine Call_ (Mz I hg hm Tk (qg9 (Cz (ha pos Ac s σ H _ I h) fun us s1 _z=>?_) hs rfl));obtain⟨vs,H1,I1,r1,q1⟩:=_z;obtain⟨l,e,⟨xs,hq⟩,q⟩:=q1;subst e;cases r1 with
 | cons r rr =>
   cases rr;cases r;obtain⟨its,rv,pl,hz⟩:=I1.list hq;refine call_enumerate_list pl.isList fun h' hen hit hsz hk=>?_;refine qp9 hen ⟨s1.heap.objs.size+1,[s1.heap.objs.size+1,s1.heap.objs.size],_,_,H1,rfl,I1.kept (t':=s1.toks) hk,iD l _ _ (ql1 _),⟨⟨_,hen⟩,hit⟩,fun b hb=>?_,q⟩
   have lb:s1.heap.objs.size<=b:=by
    rcases qc0.mp hb with rfl | hb
    . exact qp0 _
    . have z:b=s1.heap.objs.size:=by simpa using hb
      rw[z];exact qa8 _
   exact I1.fpOk lb (I1.hok.fresh lb)
section
variable{g:TG}{tc:TT}{te:TE}{D:Addr}{Q:Hp->Prop}{τ:St}{H:Hp}
def KP{K:W.Frag}{a:Addr}{xs:List V}(Pv:Nat->List V->St->Hp->Prop)(h0:Pv 0 [] τ H)(hl:∀i ys τ H,i<=xs.length->Pv i ys τ H->SqL K H a xs)
 (hs:∀i x ys τ H p,xs[i]?=some x->Pv i ys τ H->H p=none->g (.ref p) τ (upd H p (.tup [.int i,x])) fun τ2 H2=>tc τ2 H2 fun b H3=>if b=true then te τ2 H3 fun y H4=>H4 D=some (.lst ys)/\ys.length<sizeLine/\Pv (i+1) (ys++[y]) τ2 (upd H4 D (.lst (ys++[y]))) else Pv (i+1) ys τ2 H3)
 (hd:∀ys τ H,Pv xs.length ys τ H->Q H):Tm (WR K a) g tc te D Q τ H:=by
 refine⟨fun i m ys τ H=>m=xs.length-i/\i<=xs.length/\Pv i ys τ H,⟨xs.length,by simp,qb6 _,h0⟩,?_⟩;rintro i m ys τ H ⟨rfl,hi,pp⟩;have q:=hl i ys τ H hi pp;by_cases hlt:i<xs.length
 . refine .inr ⟨⟨xs,xs[i],q,by simp[hlt]⟩,Pv (i+1),fun ys' τ' H' p'=>⟨xs.length-(i+1),by omega,rfl,hlt,p'⟩,fun x H' y=>?_⟩;obtain⟨p,v,hp,rfl,rfl,y⟩:=y;exact hs i v ys τ _ p (y xs q) pp hp
 . have e:i=xs.length:=by omega
   subst e;exact .inl ⟨⟨xs,q,qa8 _⟩,hd ys τ H pp⟩
def oA{K:W.Frag}{a:Addr}{xs:List V}{g:TG}{tb:TS}{D:Ends}{σ:St}{H:Hp}(Pv:Nat->St->Hp->Prop)(h0:Pv 0 σ H)(hl:∀i σ H,i<=xs.length->Pv i σ H->SqL K H a xs)
 (hs:∀i x σ H p,xs[i]?=some x->Pv i σ H->H p=none->g (.ref p) σ (upd H p (.tup [.int i,x])) fun σ2 H2=>tb { D with nx:=Pv (i+1),ct:=Pv (i+1),bk:=D.nx } σ2 H2) (hd:∀σ H,Pv xs.length σ H->D.nx σ H) :
 ∃W:Nat->Nat->St->Hp->Prop,(∃m,W 0 m σ H)/\∀i m σ H,W i m σ H →
   ((WR K a).stop i H/\D.nx σ H)\/((WR K a).go i H/\∃N:St->Hp->Prop,(∀σ' H',N σ' H'->∃m',m'<m/\W (i+1) m' σ' H')/\∀x H',(WR K a).yld i H x H'->g x σ H' fun σ2 H2=>tb { D with nx:=N,ct:=N,bk:=D.nx } σ2 H2):=by
 refine⟨fun i m σ H=>m=xs.length-i/\i<=xs.length/\Pv i σ H,⟨xs.length,by simp,qb6 _,h0⟩,?_⟩;rintro i m σ H ⟨rfl,hi,pp⟩;have q:=hl i σ H hi pp;by_cases hlt:i<xs.length
 . refine .inr ⟨⟨xs,xs[i],q,by simp[hlt]⟩,Pv (i+1),fun σ' H' p'=>⟨xs.length-(i+1),by omega,rfl,hlt,p'⟩,fun x H' y=>?_⟩;obtain⟨p,v,hp,rfl,rfl,y⟩:=y;exact hs i v σ _ p (y xs q) pp hp
 . have e:i=xs.length:=by omega
   subst e;exact .inl ⟨⟨xs,q,qa8 _⟩,hd σ H pp⟩
end
def Inv.turnedN{X:Cx}{Ac:LAObj}{σ:St}{H:Hp}{s:Shared}{h':Heap}{t':Nat}{fp:List Addr}(I:Inv X Ac σ H s)(k:∀b o,b ∉ fp->s.heap.get? b=some o->h'.get? b=some o)(hf:∀b∈fp,Oo X Ac H b) :
 Inv X Ac σ H { s with heap:=h',toks:=t' }:=by
 have AI:∀c o,H c=some o->c ∉ fp:=fun c o e hm=>by rw[(hf c hm).1]at e;cases e
 refine I.step (g':=s.gens) (d':=s.drawn) (ch:=fp) (fun b hb=>?_) (fun b o _ _ hc e _=>k b o hc e) (fun b o _ _ hc e _=>⟨o.slots,k b o hc e⟩) (fun _ _ _ _ n=>n)
  (fun b o hc e=>⟨o,k b o hc e⟩) (fun _ _ e=>e) (fun _ _ _ e=>e) (fun b ps e=>⟨#[],by rw[e];simp⟩) (fun m hm=>?_) (fun b u e=>?_) I.bare
 . have f:=hf b hb;exact⟨f.2.2.2.1,f.2.1,f.2.2.2.2.1,f.2.2.2.2.2⟩
 . obtain⟨o,es',ep,ho,r⟩:=hm;exact⟨o,es',ep,k _ o (fun z=>(hf _ z).2.1 rfl) ho,r⟩
 . refine(I.hok b u e).stay (fun c y hc' q=>?_) (fun c q=>q) fun c ys q=>q;rcases hc' with rfl | hc'
   . exact k _ _ (AI _ _ e) q
   . exact k _ _ (AI _ _ hc') q
section
variable{g:TG}{tc:TT}{te:TE}{D:Addr}{Q:Hp->Prop}{τ:St}{H:Hp}
end
def op_mulX{X:Cx}:OpR X (binaryOp .Mult) (rI IntMulOk fun i j=>.int (i*j)):=opI fun _ _ _ _ _ _ _ hc q=>mul_int q hc
def j7{i j:Int}(h1:-(2 ^ 64)<i)(h2:i<2 ^ 64):IntMulOk i j:=rV.ok (.inl ⟨h1,h2⟩)
def U2{i j:Int}(h1:-(2 ^ 64)<j)(h2:j<2 ^ 64):IntMulOk i j:=rV.ok (.inr ⟨h1,h2⟩)
end L2
namespace L2
open PySem PySem.W PySem.Calls PyProof.Rows
end L2
namespace L2
open PySem PySem.Spec PyProof.Rows PySem.SeqAt
section
variable{X:Cx}
theorem Yy{Ac:LAObj}{σ:St}{H:Hp}{s:Shared}(I:Inv X Ac σ H s){d:D}:∀{vs:List V}{us:List Value}{ds:List D},Reps X.K H vs ds->Vals vs us->us.countP (jY X H d)=ds.countP fun e=>eqD e d
 | vs,us,[],r,rv=>by
   cases (show vs=[] from r);cases rv;rfl
 | vs,us,e::ds,r,rv=>by
   obtain⟨v,q,rfl,h1,h2⟩:=r;cases rv with
   | cons r1 r2=>rw[List.countP_cons,List.countP_cons,x5 I r1 h1,Yy I h2 r2]
def rCount(K:W.Frag)(n:Nat):V->List V->Hp->VK->Prop:=fun x vs H Q=>∃ds y d,vs=[y]/\Rep K H x (.tup ds)/\Rep K H y d/\deps ds+1<=n/\Q (.int ((ds.countP fun e=>eqD e d:Nat):Int)) H
def mt_count{n:Nat}(hu:X.A.units+n<cLine):MtR X "tuple.count" (rCount X.K n):=by
 intro Ac s σ H x vs v us Q I rx rv h;obtain⟨ds,y,d,rfl,⟨a,ws,rfl,hq,r⟩,hy,hn,q⟩:=h;cases rx;obtain⟨u,rfl,ru⟩:=rv.one;obtain⟨its,rw',p,hz⟩:=I.tuple hq;obtain⟨o,ho,hc,k,hd⟩:=id p;obtain⟨cls,dd,data,sl⟩:=o;simp only at hc hd;subst hc hd
 refine call_meets PySem.F.slot_tuple_count ⟨_,ho,rfl⟩ PySem.F.entry_tuple_count (PySem.F.args_tuple_count_2 _ _)
  (tuple_countAt a its.toArray k dd sl u (jY X H d)) ⟨ho,R7 I (A:=X.A.in1) (by show X.A.units+1+deps ds<cLine;omega) hy ru r rw',?_⟩
 refine⟨.int _,H,I.tok _,⟨_,rfl⟩,?_⟩;rw[List.toList_toArray,Yy I r rw'];exact q
def Inv.tupleN{Ac:LAObj}{σ:St}{H:Hp}{s:Shared}{a:Addr}{xs:List V}(I:Inv X Ac σ H s)(h:Fw X.K H a xs):∃o,s.heap.get? a=some o/\o.cls=.type "tuple"/\o.dict=none:=by
 rcases h with h|⟨o,its,n,hk,hc,hdn,hs,hz,r⟩
 . obtain⟨z,its,r,o,e,c,d,_⟩:=(show ObjOk _ _ _ _ _ (.tup xs) from h.ok I.hok)
   exact⟨o,e,c,d⟩
 . exact⟨o,I.kIn a o hk,hc,hdn⟩
def XC(K:W.Frag)(r:V->List V->Hp->VK->Prop)(to:TE)(t:TA):TE:=fun σ H Q=>to σ H fun x H1=>(∃p xs,x=.ref p/\Fw K H1 p xs)/\t σ H1 fun xs H2=>r x xs H2 Q
section
variable{o e:Expr}{es:List Expr}{to:TE}{t:TA}{name:Str}{apos cpos:Pos}{id:String}{r:V->List V->Hp->VK->Prop}
def uI(pa:PlainAttrs "tuple")(slot:Slot "tuple" name id)(hty:typeOf (.builtin id)=pure (.type "method_descriptor"))(hm:MtR X id r)(ho:PE X o to)(ha:PA X (e::es) t)
 (hbase:attributeBase o name X.env (eval o X.env)=eval o X.env:=by rfl)
 (hfew:((backTo cpos (starEach (e::es) X.env)).all (fun x=>!x.1)&&(backToKw cpos (keywordEach [] X.env)).all (fun x=>x.1.isSome)
   && decide ((e::es).length+([]:List Keyword).length+(if ([]:List Keyword).isEmpty then 0 else 1)<30))=true:=by rfl)
 (hline:(apos.endLine==cpos.line)=true:=by rfl) (hs:starEach (e::es) X.env=(false,eval e X.env)::starEach es X.env:=by rfl) (hplain:(backTo cpos (starEach es X.env)).any (·.1)=false:=by rfl) :
 PE X (.Call (.Attribute o name apos) (e::es) [] cpos) (XC X.K r to t):=by
 intro Ac s σ H Q I h;refine wpAny_Call_method_late hbase hfew hline rfl (Cz (ho Ac s σ H _ I h) fun v s1 _z=>?_);obtain⟨x,H1,I1,r1,⟨p,xs,ex,hq⟩,q1⟩:=_z;subst ex;cases r1;obtain⟨ob,he,hc,hd⟩:=Inv.tupleN I1 hq;refine⟨"tuple",id,pa,slot,hty,⟨ob,he,hc⟩,fun a' ea=>?_,?_⟩
 . cases ea;exact⟨ob,he,hd⟩
 have hA:=ha cpos Ac s1 σ H1 _ I1 q1;rw[hs]at hA ⊢;refine qg5 (by show(false || (backTo cpos (starEach es X.env)).any (·.1))=false;rw[hplain]<;>rfl) (ql6 ?_);exact Cz hA fun us s2 ⟨vs,H2,I2,r2,q2⟩=>hm Ac s2 σ H2 (.ref p) vs (.ref p) us Q I2 rfl r2 q2
def QV{K:W.Frag}(pa:PlainAttrs "tuple")(slot:Slot "tuple" name id)(hty:typeOf (.builtin id)=pure (.type "method_descriptor"))(hm:MtR X id r)(ho:PE X o to)(ha:PA X (e::es) t)(hK:X.K=K:=by rfl)
 (hbase:attributeBase o name X.env (eval o X.env)=eval o X.env:=by rfl)
 (hfew:((backTo cpos (starEach (e::es) X.env)).all (fun x=>!x.1)&&(backToKw cpos (keywordEach [] X.env)).all (fun x=>x.1.isSome)
   && decide ((e::es).length+([]:List Keyword).length+(if ([]:List Keyword).isEmpty then 0 else 1)<30))=true:=by rfl)
 (hline:(apos.endLine==cpos.line)=true:=by rfl) (hs:starEach (e::es) X.env=(false,eval e X.env)::starEach es X.env:=by rfl) (hplain:(backTo cpos (starEach es X.env)).any (·.1)=false:=by rfl) :
 PE X (.Call (.Attribute o name apos) (e::es) [] cpos) (XC K r to t):=by subst hK;exact uI pa slot hty hm ho ha hbase hfew hline hs hplain
end
def kmt_count{K:W.Frag}{n:Nat}(hu:X.A.units+n<cLine)(hK:X.K=K:=by rfl):MtR X "tuple.count" (rCount K n):=by subst hK;exact mt_count hu
end
end L2
namespace L2
open PySem PySem.Spec PyProof.Rows
noncomputable def nQ:Expr->Option Int
 | .Constant (.int i) _ _=>some i
 | _=>none
def Vd:List Expr->Option (List Int)
 | []=>some []
 | e::es=>match nQ e,Vd es with
   | some i,some is=>some (i::is)
   | _,_=>none
def rX(ns:List Int):TA:=fun _ H Q=>Q (ns.map V.int) H
theorem GN{X:Cx}:∀{es:List Expr}{ns:List Int},Vd es=some ns->PA X es (rX ns)
 | [],ns,h=>by
   cases h;exact Ad
 | e::es,ns,h=>by
   unfold Vd at h;cases e1:nQ e with
   | none=>rw[e1]at h;cases h
   | some i =>
     cases e2:Vd es with
     | none=>rw[e1,e2]at h;cases h
     | some is =>
       rw[e1,e2]at h;cases h;unfold nQ at e1;split at e1
       case h_2=>cases e1
       case h_1 =>
        cases e1;exact Aa Aj (GN e2)
structure PAw(X:Cx)(es:List Expr)(t:TA):Prop where
 h:PA X es t
def MJ{X:Cx}{es:List Expr}{ns:List Int}(h:Vd es=some ns):PAw X es (rX ns):=⟨GN h⟩
end L2
namespace Hb
open PySem L2
def Wx(xs:LLInt):Prop:=∀x∈xs,x.length=0\/x.length=2\/x.length=3\/x.length=4
def Bz{α:Type}{l:List α}{i:Nat}{d:α}(h:i<l.length):l.getD i d∈l:=by
 rw[qa5,qa0 h];exact qc7 h
def Wx.at{xs:LLInt}(h:Wx xs){f:Int}(h0:0<=f)(h1:f<(xs.length:Int)):(xs.getD f.toNat []).length=0\/(xs.getD f.toNat []).length=2\/(xs.getD f.toNat []).length=3\/(xs.getD f.toNat []).length=4:=h _ (Bz (by omega))
noncomputable def Fr(x:List Int)(f:Int):Nat:=x.countP fun g=>decide (g=f)
def fY(x:List Int)(f:Int):(B7 x).countP (fun e=>eqD e (.int f))=Fr x f:=by
 unfold B7 Fr;rw[List.countP_map]
 congr 1
def Ov(xs:LLInt)(f:Int):Nat->List Int
 | 0=>[]
 | i+1=>Ov xs f i++List.replicate (Fr (xs.getD i []) f) (i:Int)
def Gw(xs:LLInt)(f:Int):List Int:=Ov xs f xs.length
def OU(x:List Int)(f:Int):Fr x f<=x.length:=List.countP_le_length ..
theorem Yq{xs:LLInt}(h4:∀x∈xs,x.length<=4)(f:Int):∀i,(Ov xs f i).length<=4*i
 | 0=>qa8 _
 | i+1=>by
   have h1:=Yq h4 f i;have h2:=OU (xs.getD i []) f
   have h3:(xs.getD i []).length<=4:=by
    by_cases h:i<xs.length
    . exact h4 _ (Bz h)
    . rw[qa5,qg6 (by omega)];exact qb6 _
   show(Ov xs f i++List.replicate _ _).length<=_;rw[qd1,qm9];omega
theorem lU(n:Nat)(v:V):(List.replicate n [v]).flatten=List.replicate n v:=by
 induction n with
 | zero=>rfl
 | succ n ih=>rw[qi1,qm7,ih,qi1];rfl
def Ja(xs:LLInt):Nat->LLInt
 | 0=>[]
 | i+1=>if (Gw xs (i:Int)).length=1/\(Gw xs ((Gw xs (i:Int)).getD 0 0)).length=0 then Ja xs i++[[(i:Int),(Gw xs (i:Int)).getD 0 0]] else Ja xs i
def Fs(xs:LLInt):LLInt:=Ja xs xs.length
theorem Zh(xs:LLInt):∀i,(Ja xs i).length<=i
 | 0=>qa8 _
 | i+1=>by
   have:=Zh xs i;unfold Ja;split
   . rw[qd1,qh3];omega
   . omega
section
variable(K:W.Frag)
def Ju:Sp:=fun vs H Q _=>∃(a:Addr) (xs:LLInt) (f:Int),vs=[.ref a,.int f]/\LT K H (.ref a) xs/\xs.length<=1000/\(∀x∈xs,x.length<=4) ∧
 ∀(D:Addr) (H':Hp),H D=none->Ah H H'->H' D=some (.lst ((Gw xs f).map V.int))->Q (.ref D) H'
def Tp:Sp:=fun vs H Q _=>∃(a:Addr) (xs:LLInt),vs=[.ref a]/\LT K H (.ref a) xs/\xs.length<=1000/\(∀x∈xs,x.length<=4) ∧
 ∀(D:Addr) (us:List V) (H':Hp),H D=none->Ah H H'->H' D=some (.lst us)->Reps K H' us ((Fs xs).map tI)->Q (.ref D) H'
def F1(_K:W.Frag):Sp:=fun vs H Q _=>∃(c j m:Int),vs=[.int c,.int j,.int m]/\0<m/\∀(r:Int) (H':Hp),Ah H H'->0<=r->r<m->Q (.int r) H'
def Q3:Sp:=fun vs H Q _=>∃(a:Addr) (xs:LLInt) (c:Int),vs=[.ref a,.int c]/\LT K H (.ref a) xs/\xs.length<=1000/\∀(w:V) (p:List Int) (H':Hp),Ah H H'->TI K H' w p->Q w H'
def Q5:Sp:=fun vs H Q _=>∃(a:Addr) (xs:LLInt) (c:Int),vs=[.ref a,.int c]/\LT K H (.ref a) xs/\Wx xs/\xs.length<=1000/\∀(w:V) (p:List Int) (H':Hp),Ah H H'->TI K H' w p->Q w H'
end
def Hh{sp:List Int}{x:Int}(h0:0<=x)(h1:x<(sp.length:Int)):Pp (sp.map V.int) x=some (.int (sp.getD x.toNat 0)):=by
 obtain⟨j,rfl⟩:=qj5 h0;have hj:j<sp.length:=by omega
 rw[qd0];exact Dw (by rw[qa7,qa0 hj,qa5,qa0 hj];rfl)
end Hb
namespace L2
open PySem PySem.Spec PyProof.Rows
section
variable{κ:Type}[DecidableEq κ]
noncomputable def Me(kvs:List (κ × V))(k:κ):Option V:=(kvs.find? fun kv=>decide (kv.1=k)).map (·.2)
def Ld(kvs:List (κ × V))(k:κ)(v:V):List (κ × V) :=
 if (kvs.any fun kv=>decide (kv.1=k))=true then kvs.map (fun kv=>if kv.1=k then(kv.1,v) else kv) else kvs++[(k,v)]
noncomputable def Vw(kvs:List (κ × V))(k:κ):List (κ × V):=kvs.filter fun kv=>decide (kv.1≠k)
def T8{p:κ × V}{r:List (κ × V)}{k:κ}(e:p.1=k):Me (p::r) k=some p.2:=by simp[Me,qm3,e]
def T9{p:κ × V}{r:List (κ × V)}{k:κ}(e:¬p.1=k):Me (p::r) k=Me r k:=by simp[Me,qm3,e]
theorem aM(k:κ):∀kvs:List (κ × V),(kvs.any fun kv=>decide (kv.1=k))=(Me kvs k).isSome
 | []=>rfl
 | p::r=>by
   rw[qh8];by_cases e:p.1=k
   . simp only[T8 e,qd3 e,Bool.true_or,Option.isSome_some]
   . rw[T9 e,qe3 e,qs5];exact aM k r
def My(kvs:List (κ × V))(k:κ)(v:V):(Ld kvs k v).length<=kvs.length+1:=by
 unfold Ld;split
 . rw[qa3];omega
 . rw[qd1,qd9,qf7];omega
theorem RelO.isSome_eq{o:Option V}{u:Option Value}(r:RelO o u):o.isSome=u.isSome:=by
 cases o with
 | none=>cases u with
   | none=>rfl
   | some _=>exact(show False from r).elim
 | some _=>cases u with
   | none=>exact(show False from r).elim
   | some _=>rfl
theorem RelO.getD{o:Option V}{u:Option Value}{d:V}{d':Value}(r:RelO o u)(rd:RelV d d'):RelV (o.getD d) (u.getD d'):=by
 cases o with
 | none=>cases u with
   | none=>exact rd
   | some _=>exact(show False from r).elim
 | some _=>cases u with
   | none=>exact(show False from r).elim
   | some _=>exact r
theorem KV.val{kvs:List (κ × V)}{vs:List (κ × Value)}(r:KV kvs vs)(k:κ):RelO (Me kvs k) (valueAt vs k):=by
 unfold KV at r
 induction r with
 | nil=>exact True.intro
 | @cons p q ps qs h t ih =>
   obtain⟨h1,h2⟩:=h;by_cases e:p.1=k
   . have e':q.1=k:=h1.symm.trans e;have b:valueAt (q::qs) k=some q.2:=by simp[valueAt,qm3,e']
     rw[T8 e,b];exact h2
   . have e':¬q.1=k:=fun z=>e (h1.trans z);have b:valueAt (q::qs) k=valueAt qs k:=by simp[valueAt,qm3,e']
     rw[T9 e,b];exact ih
theorem KV.any{kvs:List (κ × V)}{vs:List (κ × Value)}(r:KV kvs vs)(k:κ):(kvs.any fun kv=>decide (kv.1=k))=vs.any fun kv=>decide (kv.1=k):=by
 unfold KV at r
 induction r with
 | nil=>rfl
 | cons h t ih=>rw[qh8,qh8,ih,h.1]
theorem KV.repl{kvs:List (κ × V)}{vs:List (κ × Value)}(r:KV kvs vs)(k:κ){y:V}{u:Value}(ry:RelV y u) :
 KV (kvs.map fun kv=>if kv.1=k then(kv.1,y) else kv) (vs.map fun kv=>if kv.1=k then(kv.1,u) else kv):=by
 unfold KV at r ⊢
 induction r with
 | nil=>exact .nil
 | @cons p q ps qs h t ih =>
   rw[qc6,qc6];refine .cons ?_ ih;obtain⟨h1,h2⟩:=h;by_cases e:p.1=k
   . rw[if_pos e,if_pos (h1.symm.trans e)];exact⟨h1,ry⟩
   . rw[if_neg e,if_neg (fun z=>e (h1.trans z))];exact⟨h1,h2⟩
def KV.put{kvs:List (κ × V)}{vs:List (κ × Value)}(r:KV kvs vs)(k:κ){y:V}{u:Value}(ry:RelV y u):KV (Ld kvs k y) (stored vs k u):=by
 unfold Ld stored;rw[r.any k];by_cases e:(vs.any fun kv=>decide (kv.1=k))=true
 . rw[if_pos e,if_pos e];exact r.repl k ry
 . rw[if_neg e,if_neg e];exact Paired.snoc r ⟨rfl,ry⟩
theorem KV.drop{kvs:List (κ × V)}{vs:List (κ × Value)}(r:KV kvs vs)(k:κ):KV (Vw kvs k) (without vs k):=by
 unfold KV at r ⊢;unfold Vw without
 induction r with
 | nil=>exact .nil
 | @cons p q ps qs h t ih =>
   obtain⟨h1,h2⟩:=h;rw[qp5,qp5];by_cases e:p.1=k
   . have a:¬decide (p.1≠k)=true:=by simp[e]
     have b:¬decide (q.1≠k)=true:=by simp[h1.symm.trans e]
     rw[if_neg a,if_neg b];exact ih
   . have e':¬q.1=k:=fun z=>e (h1.trans z);have a:decide (p.1≠k)=true:=by simp[e]
     have b:decide (q.1≠k)=true:=by simp[e']
     rw[if_pos a,if_pos b];exact .cons ⟨h1,h2⟩ ih
theorem KV.keys{kvs:List (κ × V)}{vs:List (κ × Value)}(r:KV kvs vs):kvs.map (·.1)=vs.map (·.1):=by
 unfold KV at r
 induction r with
 | nil=>rfl
 | cons h t ih=>rw[qc6,qc6,ih,h.1]
theorem KV.length{kvs:List (κ × V)}{vs:List (κ × Value)}(r:KV kvs vs):kvs.length=vs.length:=qo2 r
def oG(kvs:List (κ × V))(k:κ):(Vw kvs k).length<=kvs.length:=qi6 _ _
end
theorem kV_is{P:Program}{w:World}{k:Key}{u:Value}(r:RelV (kV k) u):(mixKind P w).is k u=true:=by
 cases k with
 | inl i=>obtain⟨t,e⟩:=(show ∃t,u=Value.int i t from r);subst e;exact BP P w i t
 | inr x=>obtain⟨t,e⟩:=(show ∃t,u=Value.str x t from r);subst e;exact bP P w x t
theorem Ym{P:Program}{w:World}:∀{ks:List Key}{us:List Value},Vals (ks.map kV) us->ItemsAre (mixKind P w) ks us
 | [],_,r=>by rw[qj1]at r;cases r;exact .nil
 | k::ks,_,r=>by
   rw[qc6]at r;cases r with
   | cons h t=>exact .cons (kV_is h) (Ym t)
abbrev KT(H:Hp):List (List Key × V)->List (List Key × Addr × Value)->Prop:=Paired fun p q=>p.1=q.1/\H q.2.1=some (.tup (p.1.map kV))/\RelV p.2 q.2.2
theorem KT.val{H:Hp}{kvs:List (List Key × V)}{xs:List (List Key × Addr × Value)}(r:KT H kvs xs)(k:List Key):RelO (Me kvs k) ((atKey xs k).map (·.2)):=by
 induction r with
 | nil=>exact True.intro
 | @cons p q ps qs h t ih =>
   obtain⟨h1,_,h2⟩:=h;by_cases e:p.1=k
   . have e':q.1=k:=h1.symm.trans e;have b:atKey (q::qs) k=some q.2:=by simp[atKey,qm3,e']
     rw[T8 e,b];exact h2
   . have e':¬q.1=k:=fun z=>e (h1.trans z);have b:atKey (q::qs) k=atKey qs k:=by simp[atKey,qm3,e']
     rw[T9 e,b];exact ih
theorem KT.repl{H:Hp}{kvs:List (List Key × V)}{xs:List (List Key × Addr × Value)}(r:KT H kvs xs)(k:List Key){y:V}{u:Value}(ry:RelV y u) :
 KT H (kvs.map fun kv=>if kv.1=k then(kv.1,y) else kv) (xs.map (putAt k u)):=by
 induction r with
 | nil=>exact .nil
 | @cons p q ps qs h t ih =>
   rw[qc6,qc6];refine .cons ?_ ih;obtain⟨h1,h2,h3⟩:=h;unfold putAt;by_cases e:p.1=k
   . rw[if_pos e,if_pos (h1.symm.trans e)];exact⟨h1,h2,ry⟩
   . rw[if_neg e,if_neg (fun z=>e (h1.trans z))];exact⟨h1,h2,h3⟩
def KT.put{H:Hp}{kvs:List (List Key × V)}{xs:List (List Key × Addr × Value)}(r:KT H kvs xs)(k:List Key){b:Addr}{y:V}{u:Value}(hb:H b=some (.tup (k.map kV)))(ry:RelV y u) :
 KT H (Ld kvs k y) (storedH xs k b u):=by
 have e:(kvs.any fun kv=>decide (kv.1=k))=(atKey xs k).isSome:=by
  rw[aM,(r.val k).isSome_eq,Option.isSome_map]
 unfold Ld storedH;rw[e];by_cases q:(atKey xs k).isSome=true
 . rw[if_pos q,if_pos q];exact r.repl k ry
 . rw[if_neg q,if_neg q];exact Paired.snoc r ⟨rfl,hb,ry⟩
def KT.keeps{H H':Hp}{kvs:List (List Key × V)}{xs:List (List Key × Addr × Value)}(r:KT H kvs xs)(ht:∀b ys,H b=some (.tup ys)->H' b=some (.tup ys)):KT H' kvs xs :=
 Paired.mapP r fun _ _ z=>⟨z.1,ht _ _ z.2.1,z.2.2⟩
section
variable{P:Program}{w:World}{H:Hp}{h:Heap}{a:Addr}
def RY{u:HO}(ok:Md P w H h)(e:Rd H a u):ObjOk P w H h a u:=e.ok ok
def Nl{kvs:List (Key × V)}(ok:Md P w H h)(e:Rd H a (.dK kvs)):kvs.length<=sizeLine/\(a==sysModules)=false/\∃vs,KV kvs vs/\h.DictOf (mixKind P w) a vs :=
 show ObjOk P w H h a (.dK kvs) from RY ok e
def Yx{kvs:List (Key × V)}(ok:Md P w H h)(e:H a=some (.dK kvs)):kvs.length<=sizeLine/\(a==sysModules)=false/\∃vs,KV kvs vs/\h.DictOf (mixKind P w) a vs:=Nl ok (.inl e)
def U8{ks:List Key}(ok:Md P w H h)(e:H a=some (.tup (ks.map kV))):(tupleKind (mixKind P w)).is h ks a:=by
 obtain⟨_,its,r,o,h1,h2,_,n,h3⟩:=(show ObjOk P w H h a (.tup (ks.map kV)) from ok a _ e)
 exact⟨o,its.toArray,n,h1,h2,h3,by simpa using Ym r⟩
theorem CC{kvs:List (List Key × V)}(ok:Md P w H h)(e:Rd H a (.dT kvs)):kvs.length<=sizeLine/\(a==sysModules)=false ∧
 ∃xs,KT H kvs xs/\h.DictOfH (tupleKind (mixKind P w)) a xs:=by
 obtain⟨z,y,xs,r,o,es,ep,h1,h2,h3,h4,h5⟩:=(show ObjOk P w H h a (.dT kvs) from RY ok e)
 refine⟨z,y,xs,r,o,es,ep,h1,h2,h3,h4,fun x hx=>?_,h5⟩
 have all:∀{l:List (List Key × V)}{m:List (List Key × Addr × Value)},KT H l m->∀x∈m,(tupleKind (mixKind P w)).is h x.1 x.2.1:=by
  intro l m q
  induction q with
  | nil=>intro x hx;exact nomatch hx
  | @cons p q ps qs hq t ih =>
    intro x hx;rcases qc0.mp hx with e | hx
    . subst e;exact U8 ok (by rw[←hq.1];exact hq.2.1)
    . exact ih x hx
 exact all r x hx
def yV{kvs:List (List Key × V)}(ok:Md P w H h)(e:H a=some (.dT kvs)):kvs.length<=sizeLine/\(a==sysModules)=false ∧
 ∃xs,KT H kvs xs/\h.DictOfH (tupleKind (mixKind P w)) a xs:=CC ok (.inl e)
end
def DGet(H:Hp)(a:Addr)(y:V)(r:Option V):Prop :=
 (∃kvs k,Rd H a (.dK kvs)/\y=kV k/\r=Me kvs k)\/∃kvs k b,Rd H a (.dT kvs)/\y=.ref b/\H b=some (.tup (k.map kV))/\r=Me kvs k
def WJ(H:Hp)(a:Addr)(y v:V)(H':Hp):Prop :=
 (∃kvs k,H a=some (.dK kvs)/\y=kV k/\kvs.length<sizeLine/\H'=upd H a (.dK (Ld kvs k v))) ∨
 ∃kvs k b,H a=some (.dT kvs)/\y=.ref b/\H b=some (.tup (k.map kV))/\kvs.length<sizeLine/\H'=upd H a (.dT (Ld kvs k v))
section
variable{X:Cx}{Ac:LAObj}{σ:St}{H:Hp}{s:Shared}{a:Addr}{y v:V}{u r:Value}{o:Option V}{A:Around}{E:Value->Shared->Prop}
def Inv.big(I:Inv X Ac σ H s):sysModules<s.heap.objs.size:=by
 have h:mainGlobals<s.heap.objs.size:=(I.mod.glob.keeps I.bk).lt;exact Nat.lt_trans (by decide) h
def kI{Q:Value->Shared->Prop}(hu:A.units+1<cLine)(I:Inv X Ac σ H s)(g:DGet H a y (some v))(ry:RelV y u)(h:∀w' s',Inv X Ac σ H s'->RelV v w'->Q w' s') :
 wpAny (model X.prog X.w) A (getItem (.ref a) u) Q E s:=by
 rcases g with⟨kvs,k,e,ey,l⟩|⟨kvs,k,b,e,ey,eb,l⟩
 . subst ey;obtain⟨z,hd,vs,rel,dd⟩:=Nl I.hok e;obtain⟨w',hw,rw'⟩:=RelO.some_of (v:=v) (o:=valueAt vs k) (by rw[l];exact rel.val k);exact wpAny_getItem_of (kV_is ry) dd.mapOf hw (h w' _ (I.tok _) rw')
 . subst ey;cases (show u=Value.ref b from ry);obtain⟨z,hd,xs,rel,dd⟩:=CC I.hok e;obtain⟨w',hw,rw'⟩:=RelO.some_of (v:=v) (o:=(atKey xs k).map (·.2)) (by rw[l];exact rel.val k);obtain⟨p,hp,hp2⟩:=qp8.mp hw;refine wpAny_getItem_heap (tupleKind_room_in1 hu) (U8 I.hok eb) dd hp ?_;rw[hp2];exact h w' _ (I.tok _) rw'
def Oa{h':Heap}{t':Nat}{ob:HO}(I:Inv X Ac σ H s)(mu:Mut (H a))(hs:Heap.SameBut a s.heap h')(he:∃q,h'.get? a=some q)(new:ObjOk X.prog X.w (upd H a ob) h' a ob) :
 Inv X Ac σ (upd H a ob) { s with heap:=h',toks:=t' } :=
 I.write (x:=a) (e:=a) mu (.inl rfl) (fun b q hb z=>(hs.2 b hb).trans z) he new
def R8{P:Program}{w:World}{H':Hp}{h':Heap}{kvs:List (Key × V)}{vs:List (Key × Value)}(z:kvs.length<=sizeLine)(hd:(a==sysModules)=false)(rel:KV kvs vs)(dd:h'.DictOf (mixKind P w) a vs) :
 ObjOk P w H' h' a (.dK kvs):=⟨z,hd,vs,rel,dd⟩
def KH{H':Hp}{Q:Unit->Shared->Prop}(hu:A.units+1<cLine)(I:Inv X Ac σ H s)(g:WJ H a y v H')(ry:RelV y u)(rv:RelV v r)(h:∀s',Inv X Ac σ H' s'->Q () s') :
 wpAny (model X.prog X.w) A (setItem (.ref a) u r) Q E s:=by
 rcases g with⟨kvs,k,e,ey,l,eH⟩|⟨kvs,k,b,e,ey,eb,l,eH⟩
 . subst ey eH;obtain⟨z,hd,vs,rel,dd⟩:=Yx I.hok e;have hz:vs.length<=sizeLine:=by rw[←rel.length];exact z
   have hl:(Ld kvs k v).length<=sizeLine:=by have:=My kvs k v;omega
   refine wpAny_setItem_pairs (hsz:=hz) (kV_is ry) dd fun h' CF hs=>h _ ?_;have he:∃q,h'.get? a=some q:=let ⟨q,_,_,hq,_⟩:=CF;⟨q,hq⟩
   exact Oa I (by rw[e];exact True.intro) hs he (R8 hl hd (rel.put k rv) CF)
 . subst ey eH;cases (show u=Value.ref b from ry);obtain⟨z,hd,xs,rel,dd⟩:=yV I.hok e;have hz:xs.length<=sizeLine:=by rw[←qo2 rel];exact z
   have hl:(Ld kvs k v).length<=sizeLine:=by have:=My kvs k v;omega
   refine wpAny_setItem_heap (hsz:=hz) (tupleKind_room_in1 hu) (U8 I.hok eb) dd fun h' CF hs=>h _ ?_;obtain⟨q,es,ep,hq,h2,h3,h4,_,h5⟩:=CF;refine Oa I (by rw[e];exact True.intro) hs ⟨q,hq⟩ ⟨hl,hd,_,(rel.put k eb rv).keeps fun c ys ec=>?_,q,es,ep,hq,h2,h3,h4,h5⟩;rw[Ai (Yg ec e (fun z=>nomatch z))];exact ec
end
section
variable{X:Cx}{Ac:LAObj}{σ:St}{H:Hp}{s:Shared}{a:Addr}{kvs:List (Key × V)}{k:Key}{u:Value}{A:Around}{E:Value->Shared->Prop}
theorem YV{v:V}{more:List Value}{Q:Value->Shared->Prop}(I:Inv X Ac σ H s)(e:H a=some (.dK kvs))(ry:RelV (kV k) u)(l:Me kvs k=some v)(hm:more=[]\/∃x,more=[x])
 (h:∀w' s',Inv X Ac σ (upd H a (.dK (Vw kvs k))) s'->RelV v w'->Q w' s'):wpAny (model X.prog X.w) A (call (.builtin "dict.pop") (.ref a::u::more)) Q E s:=by
 obtain⟨z,hd,vs,rel,dd⟩:=Yx I.hok e;obtain⟨w',hw,rw'⟩:=RelO.some_of (v:=v) (o:=valueAt vs k) (by rw[←l];exact rel.val k)
 have hp:(keyPart u).isSome=true:=by
  cases k with
  | inl i=>obtain⟨t,q⟩:=(show ∃t,u=Value.int i t from ry);subst q;rfl
  | inr x=>obtain⟨t,q⟩:=(show ∃t,u=Value.str x t from ry);subst q;rfl
 have ha:argsOk "dict.pop" ⟨.ref a::u::more,[]⟩:=by
  rcases hm with q|⟨x,q⟩
  . subst q;exact PySem.F.args_dict_pop_2 _ _
  . subst q;exact PySem.F.args_dict_pop_3 _ _ _
 refine call_meetsIn qq1 dd.typeIs PySem.F.entry_dict_pop ha (meets_dict_pop_there (mixKind X.prog X.w) a (kV_is ry) more hm hp)
  ⟨vs,w',dd,by rw[←rel.length];exact z,hw,fun h' CF hs=>h w' _ ?_ rw'⟩
 have he:∃q,h'.get? a=some q:=let ⟨q,_,_,hq,_⟩:=CF;⟨q,hq⟩
 exact Oa I (by rw[e];exact True.intro) hs he (R8 (qe5 (oG kvs k) z) hd (rel.drop k) CF)
theorem VY{r:Value}{Q:Value->Shared->Prop}(I:Inv X Ac σ H s)(e:H a=some (.dK kvs))(ry:RelV (kV k) u)(l:Me kvs k=none)(h:∀s',Inv X Ac σ H s'->Q r s') :
 wpAny (model X.prog X.w) A (call (.builtin "dict.pop") [.ref a,u,r]) Q E s:=by
 obtain⟨z,hd,vs,rel,dd⟩:=Yx I.hok e;have hn:valueAt vs k=none:=RelO.none_of (by rw[←l];exact rel.val k)
 have hp:(keyPart u).isSome=true:=by
  cases k with
  | inl i=>obtain⟨t,q⟩:=(show ∃t,u=Value.int i t from ry);subst q;rfl
  | inr x=>obtain⟨t,q⟩:=(show ∃t,u=Value.str x t from ry);subst q;rfl
 exact call_meetsIn qq1 dd.typeIs PySem.F.entry_dict_pop (PySem.F.args_dict_pop_3 _ _ _) (meets_dict_pop_default (mixKind X.prog X.w) a (kV_is ry) hd hp r) ⟨vs,dd,hn,h _ (I.tok _)⟩
def RM{Q:Value->Shared->Prop}(I:Inv X Ac σ H s)(e:H a=some (.dK kvs))(h:∀s',Inv X Ac σ (upd H a (.dK [])) s'->Q .none s'):wpAny (model X.prog X.w) A (call (.builtin "dict.clear") [.ref a]) Q E s:=by
 obtain⟨z,hd,vs,rel,dd⟩:=Yx I.hok e;refine call_meetsIn PySem.F.slot_dict_clear dd.typeIs PySem.F.entry_dict_clear (PySem.F.args_dict_clear_1 _) (meets_dict_clear (mixKind X.prog X.w) a) ⟨vs,dd,by rw[←rel.length];exact z,fun h' CF hs=>h _ ?_⟩;have he:∃q,h'.get? a=some q:=let ⟨q,_,_,hq,_⟩:=CF;⟨q,hq⟩
 exact Oa (t':=s.toks) I (by rw[e];exact True.intro) hs he (R8 (qb6 _) hd .nil CF)
def yW{Q:Value->Shared->Prop}(I:Inv X Ac σ H s)(e:Rd H a (.dK kvs))(h:∀t s',Inv X Ac σ H s'->Q (.int kvs.length t) s'):wpAny (model X.prog X.w) A (call (.builtin "len") [.ref a]) Q E s:=by
 obtain⟨z,hd,vs,rel,dd⟩:=Nl I.hok e;refine call_len_dict hd dd (by rw[←rel.length];rw[sizeLine_eq]at z;omega) ?_;rw[←rel.length];exact h _ _ (I.tok _)
end
def NoSl(i:Expr):Prop:=∀ov iv,subscripted i false ov iv=operate [ov,iv] (getItem ov iv)
theorem pV{prog:Program}{w:World}{A:Around}{E:Value->Shared->Prop}{s:Shared}{env:Env}{value slice:Expr}{pos:Pos}{T id:String}{Q:Value->Shared->Prop}
 (hl:typeLookup (.type T) "__getitem__"=pure (some (.builtin id))) (hs:NoSl slice)
 (h:wpAny (model prog w) A (eval value env) (fun o s₁=>wpAny (model prog w) A (eval slice env) (fun i s₂=>s₂.TypeIs o T/\wpAny (model prog w) A (getItem o i) Q E s₂) E s₁) E s) :
 wpAny (model prog w) A (eval (.Subscript value slice pos) env) Q E s:=by
 refine Subscript_ (qe2 h (fun o s₁ h₁=>qe2 h₁ (fun i s₂ h₂=>?_) fun _ _ x=>x) fun _ _ x=>x);obtain⟨hT,h₂⟩:=h₂;unfold subscriptTail;refine qa1 ?_;rw[getitemInPython_of_ne hT.not_modules];refine qa1 (wpAny_specialOf hT hl ?_)
 have fin:wpAny (model prog w) A (subscripted slice false o i) (fun r s₃=>wpAny (model prog w) A (letTemporaryGo value o r>>=fun _=>pure r) Q E s₃) E s₂:=by
  rw[hs o i];exact wpAny_operating (qe2 h₂ (fun r s₃ h₃=>qa1 (wpAny_letTemporaryGo (qa6 h₃))) fun _ _ x=>x)
 first
  | exact qa6 (qa1 fin)
  | exact qa1 (qa6 (qa1 fin))
  | exact qa1 fin
def CD{X:Cx}{Ac:LAObj}{σ:St}{H:Hp}{s:Shared}{a:Addr}{y:V}{o:Option V}(I:Inv X Ac σ H s)(g:DGet H a y o):s.TypeIs (.ref a) "dict":=by
 rcases g with⟨kvs,k,e,_,_⟩|⟨kvs,k,b,e,_,_,_⟩
 . obtain⟨_,_,vs,_,dd⟩:=Nl I.hok e;exact dd.typeIs
 . obtain⟨_,_,xs,_,dd⟩:=CC I.hok e;exact dd.typeIs
def XA(td ty:TE):TE:=fun σ H Q=>td σ H fun x H1=>ty σ H1 fun y H2=>∃a v,x=.ref a/\DGet H2 a y (some v)/\Q v H2
def XE(td ty tv:TE):TS:=fun D σ H=>tv σ H fun v H1=>td σ H1 fun x H2=>ty σ H2 fun y H3=>∃a H4,x=.ref a/\WJ H3 a y v H4/\D.nx σ H4
section
variable{X:Cx}{o i e value:Expr}{pos pos' tpos:Pos}{td ty tv:TE}
def b8(hu:X.A.units+1<cLine)(ho:PE X o td)(hi:PE X i ty)(hs:NoSl i):PE X (.Subscript o i pos) (XA td ty):=by
 intro Ac s σ H Q I h;refine pV PySem.F.slot_dict_getitem.lookup hs (Cz (ho Ac s σ H _ I h) fun u s1 ⟨x,H1,I1,rx,q1⟩=>Cz (hi Ac s1 σ H1 _ I1 q1) fun iv s2 _z=>?_);obtain⟨y,H2,I2,ry,a,v,ex,g,q2⟩:=_z;subst ex;obtain rfl:u=Value.ref a:=rx;exact⟨CD I2 g,kI hu I2 g ry fun w' s3 I3 rw'=>⟨v,H2,I3,rw',q2⟩⟩
def N4(hu:X.A.units+1<cLine)(ho:PE X o td)(hi:PE X i ty)(hv:PE X value tv)(hs:swapsWith value (some (.Subscript o i pos')) pos.line X.env=pure false) :
 PS X (.Assign [.Subscript o i pos'] value pos) (XE td ty tv):=by
 intro Ac s σ H D I h;refine wpAny_Assign_Subscript (Cz (hv Ac s σ H _ I h) fun r s1 ⟨v,H1,I1,rv,q1⟩=>Cz (ho Ac s1 σ H1 _ I1 q1) fun u s2 ⟨x,H2,I2,rx,q2⟩=>Cz (hi Ac s2 σ H2 _ I2 q2) fun iv s3 _z=>?_) hs;obtain⟨y,H3,I3,ry,a,H4,ex,g,q3⟩:=_z;subst ex;obtain rfl:u=Value.ref a:=rx;exact KH hu I3 g ry rv fun s4 I4=>⟨σ,H4,I4,q3⟩
end
def dk_empty{P:Program}{w:World}{H:Hp}(h:Heap)(hb:sysModules<h.objs.size):ObjOk P w H (h.push { cls:=.type "dict",data:=.dict #[] }) h.objs.size (.dK []) :=
 ⟨qb6 _,qj2.mpr (Ne.symm (qb8 hb)),[],.nil,Heap.DictOf.new h⟩
def tT:TE:=fun _ H Q=>∀p,H p=none->Q (.ref p) (upd H p (.dK []))
section
variable{X:Cx}{pos:Pos}
def Er:PE X (.Dict [] [] pos) tT:=fun Ac s σ H Q I h =>
 wpAny_Dict_empty ⟨.ref s.heap.objs.size,_,I.laid (a:=s.heap.objs.size) (o:=.dK []) (t':=s.toks) (fun _ _ q=>qa4 _ q) (qa8 _) (dk_empty s.heap I.big),rfl,h _ (I.hok.fresh (qa8 _))⟩
end
def tPairs:List (TE × TE)->St->Hp->(List (V × V)->Hp->Prop)->Prop
 | [],_,H,Q=>Q [] H
 | (tk,tv)::r,σ,H,Q=>tk σ H fun x H1=>tv σ H1 fun y H2=>tPairs r σ H2 fun ps H3=>Q ((x,y)::ps) H3
abbrev VV:List (V × V)->List (Value × Value)->Prop:=Paired fun p q=>RelV p.1 q.1/\RelV p.2 q.2
def yY(X:Cx)(pos:Pos)(keys:List (Option Expr))(values:List Expr)(pR:List (TE × TE)):Prop :=
 ∀(Ac:LAObj) (s:Shared) (σ:St) (H:Hp) (Q:List (V × V)->Hp->Prop),Inv X Ac σ H s->tPairs pR σ H Q →
   wpAny (model X.prog X.w) X.A (evalPairs (pairTrees keys values X.env pos)) (fun vs s'=>∃ps H',Inv X Ac σ H' s'/\VV ps vs/\Q ps H') X.xe s
def Dt{X:Cx}{pos:Pos}:yY X pos [] [] []:=fun Ac s σ H Q I h=>pairTrees_nil_walk ⟨[],H,I,.nil,h⟩
def Cw{X:Cx}{pos:Pos}{k v:Expr}{ks:List (Option Expr)}{vs:List Expr}{tk tv:TE}{pR:List (TE × TE)}(hk:PE X k tk)(hv:PE X v tv)(hr:yY X pos ks vs pR) :
 yY X pos (some k::ks) (v::vs) ((tk,tv)::pR):=fun Ac s σ H Q I h =>
 pairTrees_cons_walk (Cz (hk Ac s σ H _ I h) fun u s1 ⟨x,H1,I1,rx,q1⟩=>Cz (hv Ac s1 σ H1 _ I1 q1) fun w2 s2 ⟨y,H2,I2,ry,q2⟩ =>
  Cz (hr Ac s2 σ H2 _ I2 q2) fun ws s3 ⟨ps,H3,I3,rel,q3⟩=>⟨(x,y)::ps,H3,I3,.cons ⟨rx,ry⟩ rel,q3⟩)
noncomputable def Bn(kvs more:List (Key × V)):List (Key × V):=more.foldl (fun acc kv=>Ld acc kv.1 kv.2) kvs
theorem KV.merge:∀{more:List (Key × V)}{rs:List (Key × Value)}{kvs:List (Key × V)}{vs:List (Key × Value)},KV more rs->KV kvs vs->KV (Bn kvs more) (merged vs rs):=by
 intro more rs kvs vs r;unfold KV at r
 induction r generalizing kvs vs with
 | nil=>intro q;exact q
 | @cons p q ps qs h t ih =>
   intro r0
   have e:KV (Ld kvs p.1 p.2) (stored vs q.1 q.2):=by
    have:=r0.put p.1 h.2;rw[←h.1];exact this
   exact ih e
theorem Jz:∀(more kvs:List (Key × V)),(Bn kvs more).length<=kvs.length+more.length
 | [],kvs=>by show kvs.length<=kvs.length+0;omega
 | p::r,kvs=>by
   have h1:=Jz r (Ld kvs p.1 p.2);have h2:=My kvs p.1 p.2;show(Bn (Ld kvs p.1 p.2) r).length<=_;rw[qd9];omega
theorem Wd{P:Program}{w:World}:∀{kvs:List (Key × V)}{ws:List (Value × Value)},VV (kvs.map fun kv=>(kV kv.1,kv.2)) ws->∃rs,Carries (mixKind P w) ws rs/\KV kvs rs
 | [],_,r=>by rw[qj1]at r;cases r;exact⟨[],True.intro,.nil⟩
 | p::kvs,_,r=>by
   rw[qc6]at r;cases r with
   | @cons a b as bs h t =>
     obtain⟨rs,c,q⟩:=Wd (P:=P) (w:=w) t;obtain⟨b1,b2⟩:=b;exact⟨(p.1,b2)::rs,⟨kV_is h.1,rfl,c⟩,.cons ⟨rfl,h.2⟩ q⟩
def xA(pR:List (TE × TE)):TE:=fun σ H Q=>∀p,H p=none->tPairs pR σ (upd H p (.dK [])) fun ps H2=>H2 p=some (.dK [])/\∃kvs:List (Key × V),ps=kvs.map (fun kv=>(kV kv.1,kv.2))/\kvs.length<=15/\Q (.ref p) (upd H2 p (.dK (Bn [] kvs)))
def Eg{X:Cx}{pos:Pos}{keys:List (Option Expr)}{values:List Expr}{pR:List (TE × TE)}(h:yY X pos keys values pR)(hall:keys.all (·.isSome)=true)(hl:keys.length=values.length)(h0:keys≠[])
 (h15:keys.length<=15):PE X (.Dict keys values pos) (xA pR):=by
 intro Ac s σ H Q I q;have hn:=I.hok.fresh (qa8 s.heap.objs.size);have I1:=I.laid (a:=s.heap.objs.size) (o:=.dK []) (h':=s.heap.push { cls:=.type "dict",data:=.dict #[] }) (t':=s.toks) (fun _ _ q=>qa4 _ q) (qa8 _) (dk_empty s.heap I.big);refine wpAny_Dict_walk (knd:=mixKind X.prog X.w) hall hl h0 h15 (Cz (h Ac _ σ _ _ I1 (q _ hn)) fun ws s2 _z=>?_);obtain⟨ps,H2,I2,rel,e,kvs,ep,lk,q2⟩:=_z;subst ep;obtain⟨rs,c,rk⟩:=Wd (P:=X.prog) (w:=X.w) rel;obtain⟨z,hd,vs0,r0,dd⟩:=Yx I2.hok e;cases r0;refine⟨rs,c,dd,fun h' CF hs=>⟨.ref s.heap.objs.size,_,?_,rfl,q2⟩⟩
 have hz:(Bn [] kvs).length<=sizeLine:=by
  have h1:=Jz kvs [];rw[qf7]at h1;rw[sizeLine_eq];omega
 have he:∃q,h'.get? s.heap.objs.size=some q:=let ⟨q,_,_,hq,_⟩:=CF;⟨q,hq⟩
 exact Oa I2 (by rw[e];exact True.intro) hs he (R8 hz hd (rk.merge .nil) CF)
structure M1(X:Cx)(o:Expr)(m:Str)(apos:Pos)(e:Expr)(cpos:Pos):Prop where
 base:attributeBase o m X.env (eval o X.env)=eval o X.env
 few:((backTo cpos (starEach [e] X.env)).all (fun x=>!x.1)&&(backToKw cpos (keywordEach [] X.env)).all (fun x=>x.1.isSome)
  && decide (([e]:List Expr).length+([]:List Keyword).length+(if ([]:List Keyword).isEmpty then 0 else 1)<30))=true
 line:(apos.endLine==cpos.line)=true
 trees:backTo cpos (starEach [e] X.env)=[(false,eval e X.env)]
structure M2(X:Cx)(o:Expr)(m:Str)(apos:Pos)(e f:Expr)(cpos:Pos):Prop where
 base:attributeBase o m X.env (eval o X.env)=eval o X.env
 few:((backTo cpos (starEach [e,f] X.env)).all (fun x=>!x.1)&&(backToKw cpos (keywordEach [] X.env)).all (fun x=>x.1.isSome)
  && decide (([e,f]:List Expr).length+([]:List Keyword).length+(if ([]:List Keyword).isEmpty then 0 else 1)<30))=true
 line:(apos.endLine==cpos.line)=true
 trees:backTo cpos (starEach [e,f] X.env)=[(false,eval e X.env),(false,eval f X.env)]
def IsD(H:Hp)(a:Addr):Prop:=(∃kvs,Rd H a (.dK kvs))\/∃kvs,Rd H a (.dT kvs)
def fJ{X:Cx}{Ac:LAObj}{σ:St}{H:Hp}{s:Shared}{a:Addr}(I:Inv X Ac σ H s)(d:IsD H a) :
 s.TypeIs (.ref a) "dict"/\(∀b,Value.ref a=.ref b->∃ob,s.heap.get? b=some ob/\ob.dict=none)/\(a==sysModules)=false:=by
 rcases d with⟨kvs,e⟩|⟨kvs,e⟩
 . obtain⟨_,hd,vs,_,dd⟩:=Nl I.hok e;refine⟨dd.typeIs,fun b q=>?_,hd⟩;cases q;obtain⟨ob,_,_,h1,h2,_⟩:=dd;exact⟨ob,h1,h2.2.1⟩
 . obtain⟨_,hd,xs,_,dd⟩:=CC I.hok e;refine⟨dd.typeIs,fun b q=>?_,hd⟩;cases q;obtain⟨ob,_,_,h1,h2,_⟩:=dd;exact⟨ob,h1,h2.2.1⟩
section
variable{X:Cx}{Ac:LAObj}{σ:St}{H:Hp}{s:Shared}{a:Addr}{y d:V}{u r:Value}{o:Option V}{A:Around}{E:Value->Shared->Prop}
def vZ{Q:Value->Shared->Prop}(hu:A.units+1<cLine)(I:Inv X Ac σ H s)(g:DGet H a y o)(ry:RelV y u)(rd:RelV d r)(h:∀w' s',Inv X Ac σ H s'->RelV (o.getD d) w'->Q w' s') :
 wpAny (model X.prog X.w) A (call (.builtin "dict.get") [.ref a,u,r]) Q E s:=by
 rcases g with⟨kvs,k,e,ey,l⟩|⟨kvs,k,b,e,ey,eb,l⟩
 . subst ey;obtain⟨z,hd,vs,rel,dd⟩:=Nl I.hok e;refine call_meetsIn qq2 dd.typeIs PySem.F.entry_dict_get (PySem.F.args_dict_get_3 _ _ _) (meets_dict_get_default (mixKind X.prog X.w) a (kV_is ry) hd r) ⟨_,dd.mapOf,h _ _ (I.tok _) ?_⟩;rw[l];exact(rel.val k).getD rd
 . subst ey;cases (show u=Value.ref b from ry);obtain⟨z,hd,xs,rel,dd⟩:=CC I.hok e;refine call_meetsIn qq2 dd.typeIs PySem.F.entry_dict_get (PySem.F.args_dict_get_3 _ _ _) (meetsH_dict_get_default (tupleKind (mixKind X.prog X.w)) a b hd r) ⟨tupleKind_room_in1 hu,k,xs,U8 I.hok eb,dd,h _ _ (I.tok _) ?_⟩;rw[l];exact(rel.val k).getD rd
end
def tDGet2(td ty tx:TE):TE:=fun σ H Q=>td σ H fun x H1=>∃a,x=.ref a/\IsD H1 a/\ty σ H1 fun y H2=>tx σ H2 fun z H3=>∃o,DGet H3 a y o/\Q (o.getD z) H3
def tS(td ty tx:TE):TE:=fun σ H Q=>td σ H fun x H1=>∃a,x=.ref a/\IsD H1 a/\ty σ H1 fun y H2=>tx σ H2 fun z H3=>∃kvs k,H3 a=some (.dK kvs)/\y=kV k ∧
 (∀v,Me kvs k=some v->Q v (upd H3 a (.dK (Vw kvs k))))/\(Me kvs k=none->Q z H3)
section
variable{X:Cx}{o e f:Expr}{apos cpos:Pos}{td ty tx:TE}
def P4(hu:X.A.units+1<cLine)(ho:PE X o td)(he:PE X e ty)(hf:PE X f tx)(m:M2 X o "get" apos e f cpos):PE X (.Call (.Attribute o "get" apos) [e,f] [] cpos) (tDGet2 td ty tx):=by
 intro Ac s σ H Q I h;refine wpAny_Call_method m.base m.few m.line qh6 qq2 PySem.F.type_dict_get (Cz (ho Ac s σ H _ I h) fun u s1 _z=>?_);obtain⟨x,H1,I1,rx,a,ex,d,q1⟩:=_z;subst ex;obtain rfl:u=Value.ref a:=rx;obtain⟨t1,t2,_⟩:=fJ I1 d;refine⟨t1,t2,?_⟩;rw[m.trees]
 refine qg5 rfl (ql6 (qk3 (Cz (he Ac s1 σ H1 _ I1 q1) fun iv s2 ⟨y,H2,I2,ry,q2⟩ =>
  qk3 (Cz (hf Ac s2 σ H2 _ I2 q2) fun fv s3 ⟨z,H3,I3,rz,ov,g,q3⟩=>qq4 ?_))))
 exact vZ hu I3 g ry rz fun w' s4 I4 rw'=>⟨_,H3,I4,rw',q3⟩
theorem MH(ho:PE X o td)(he:PE X e ty)(hf:PE X f tx)(m:M2 X o "pop" apos e f cpos):PE X (.Call (.Attribute o "pop" apos) [e,f] [] cpos) (tS td ty tx):=by
 intro Ac s σ H Q I h;refine wpAny_Call_method m.base m.few m.line qh6 qq1 PySem.F.type_dict_pop (Cz (ho Ac s σ H _ I h) fun u s1 _z=>?_);obtain⟨x,H1,I1,rx,a,ex,d,q1⟩:=_z;subst ex;obtain rfl:u=Value.ref a:=rx;obtain⟨t1,t2,_⟩:=fJ I1 d;refine⟨t1,t2,?_⟩;rw[m.trees]
 refine qg5 rfl (ql6 (qk3 (Cz (he Ac s1 σ H1 _ I1 q1) fun iv s2 ⟨y,H2,I2,ry,q2⟩ =>
  qk3 (Cz (hf Ac s2 σ H2 _ I2 q2) fun fv s3 ⟨z,H3,I3,rz,kvs,k,ea,ey,q3,q4⟩=>qq4 ?_))))
 subst ey;cases l:Me kvs k with
 | some v=>exact YV I3 ea ry l (.inr ⟨fv,rfl⟩) fun w' s4 I4 rw'=>⟨v,_,I4,rw',q3 v l⟩
 | none=>exact VY I3 ea ry l fun s4 I4=>⟨z,H3,I4,rz,q4 l⟩
end
section
variable{X:Cx}{Ac:LAObj}{σ:St}{H:Hp}{s:Shared}{a:Addr}{kvs:List (Key × V)}{A:Around}{E:Value->Shared->Prop}
def CK{Q:Value->Shared->Prop}(I:Inv X Ac σ H s)(e:Rd H a (.dK kvs))(h:∀p s',H p=none->Inv X Ac σ (upd H p (.dK kvs)) s'->Q (.ref p) s'):wpAny (model X.prog X.w) A (call (.type "dict") [.ref a]) Q E s:=by
 obtain⟨z,hd,vs,rel,dd⟩:=Nl I.hok e;refine kt_call_dict hd dd (by rw[←rel.length];exact z) fun h' CF hs=>?_;refine h _ _ (I.hok.fresh (qa8 _)) (I.laid (a:=s.heap.objs.size) (o:=.dK kvs) (t':=s.toks) (fun b q hq=>?_) (qa8 _) (R8 z (qj2.mpr (Ne.symm (qb8 I.big))) rel CF));exact(hs.2 b (qb8 (qa9 hq))).trans (qa4 _ hq)
end
section
variable{X:Cx}{Ac:LAObj}{σ:St}{H:Hp}{s:Shared}{a:Addr}{y:V}{u:Value}{A:Around}{E:Value->Shared->Prop}
end
section
variable{X:Cx}
def KQ:CallR X (.builtin "len") (fun xs H Q=>∃a kvs,xs=[V.ref a]/\H a=some (.dK kvs)/\Q (.int kvs.length) H):=by
 intro Ac s σ H xs us Q I r h;obtain⟨a,kvs,rfl,ha,q⟩:=h;obtain⟨u,rfl,ru⟩:=L5 r;cases ru;exact yW I (.inl ha) fun t s' I'=>⟨.int kvs.length,H,I',⟨t,rfl⟩,q⟩
end
end L2
namespace L2
open PySem PySem.Spec PyProof.Rows PySem.SeqAt
noncomputable def cK(ms:List (Int × Int)):List (Key × V):=ms.map fun p=>(Sum.inl p.1,V.int p.2)
noncomputable def lookI(ms:List (Int × Int))(k:Int):Option Int:=(ms.find? fun p=>decide (p.1=k)).map (·.2)
inductive L9:List DictEntry->List (Int × Int)->Prop
 | nil:L9 [] []
 | cons {e:DictEntry}{k v:Int}{es:List DictEntry}{ms:List (Int × Int)}{t t':Tok}:e.key=.int k t->e.hash=hashInt k->e.val=.int v t'->L9 es ms->L9 (e::es) ((k,v)::ms)
theorem L9.length{es:List DictEntry}{ms:List (Int × Int)}(h:L9 es ms):es.length=ms.length:=by
 induction h with
 | nil=>rfl
 | cons _ _ _ _ ih=>simp[ih]
theorem L9.get{es:List DictEntry}{ms:List (Int × Int)}(h:L9 es ms):∀{i:Nat}{e:DictEntry},es[i]?=some e->∃k v t t',ms[i]?=some (k,v)/\e.key=.int k t/\e.hash=hashInt k/\e.val=.int v t':=by
 induction h with
 | nil=>intro i e q;simp at q
 | @cons e0 k v es ms t t' h1 h2 h3 _ ih =>
   intro i e q;cases i with
   | zero =>
     have:e0=e:=by simpa using q
     subst this;exact⟨k,v,t,t',by simp,h1,h2,h3⟩
   | succ i =>
     obtain⟨k',v',t1,t2,q1,q2⟩:=ih (i:=i) (e:=e) (by simpa using q);exact⟨k',v',t1,t2,by simpa using q1,q2⟩
theorem L9.find{es:List DictEntry}{ms:List (Int × Int)}(h:L9 es ms)(k:Int):es.findIdx? (fun e=>Value.isInt k e.key)=ms.findIdx? fun p=>decide (p.1=k):=by
 induction h with
 | nil=>rfl
 | @cons e0 k0 v es ms t t' h1 h2 h3 _ ih =>
   rw[qr8,qr8,h1,ih]
   have e:Value.isInt k (.int k0 t)=decide (k0=k):=by
    by_cases q:k0=k
    . subst q;simp[Value.isInt]
    . simp[Value.isInt,q];try exact fun z=>q z.symm
   rw[e]
structure Kw(h:Heap)(a:Addr)(ms:List (Int × Int)):Prop where
 ex:∃o es ep,h.get? a=some o/\o.ExactDict/\o.data=.dict es ep/\L9 es.toList ms
 sys:(a==sysModules)=false
 nd:(ms.map (·.1)).Nodup
def Kw.typeIs{s:Shared}{a:Addr}{ms:List (Int × Int)}(x:Kw s.heap a ms):s.TypeIs (.ref a) "dict":=let ⟨o,_,_,ho,hc,_⟩:=x.ex;⟨o,ho,hc.1⟩
def eY{ms:List (Int × Int)}{k:Int}(h:ms.findIdx? (fun p=>decide (p.1=k))=none):lookI ms k=none:=by
 unfold lookI;rw[List.findIdx?_eq_none_iff]at h;rw[List.find?_eq_none.mpr (fun p hp=>by have:=h p hp;simpa using this)];rfl
theorem EX{ms:List (Int × Int)}{k:Int}{j:Nat}(h:ms.findIdx? (fun p=>decide (p.1=k))=some j):∃v,ms[j]?=some (k,v)/\lookI ms k=some v:=by
 induction ms generalizing j with
 | nil=>simp at h
 | cons p ms ih =>
   rw[qr8]at h;by_cases q:p.1=k
   . rw[qd3 q,if_pos rfl]at h;cases h;refine⟨p.2,by simp[←q],?_⟩;unfold lookI;rw[List.find?_cons_of_pos (by simpa using q)];rfl
   . rw[qe3 q,if_neg (by decide)]at h;cases h2:ms.findIdx? (fun p=>decide (p.1=k)) with
     | none=>rw[h2]at h;cases h
     | some j' =>
       rw[h2]at h;have e:j=j'+1:=by simpa using h.symm
       subst e;obtain⟨v,h3,h4⟩:=ih h2;refine⟨v,by simpa using h3,?_⟩;unfold lookI at h4 ⊢;rw[List.find?_cons_of_neg (by simpa using q)];exact h4
def RS(fs:Array DictEntry)(p:DictEntry->Bool):fs.findIdx? p=fs.toList.findIdx? p:=by
 cases fs;simp
def xY{prog:Program}{w:World}{A:Around}{E:Value->Shared->Prop}{s:Shared}{x y:Int}{t u:Tok}{Q:Bool->Shared->Prop}(h:Q (decide (x=y)) s):wpAny (model prog w) A (eqBool (.int x t) (.int y u)) Q E s :=
 (intKind prog w).eqBool (by show Value.isInt x (.int x t)=true;simp[Value.isInt]) (by show Value.isInt y (.int y u)=true;simp[Value.isInt]) h
def UW{prog:Program}{w:World}{es:Array DictEntry}{ms:List (Int × Int)}(h:L9 es.toList ms):KeysOf (intKind prog w) es:=by
 intro e he;obtain⟨i,hi,rfl⟩:=Array.mem_iff_getElem.mp he;obtain⟨k,v,t,t',_,h1,h2,_⟩:=h.get (i:=i) (e:=es[i]) (by simp[hi]);exact⟨k,by show Value.isInt k _=true;rw[h1];simp[Value.isInt],h2⟩
theorem Pz{prog:Program}{w:World}{A:Around}{E:Value->Shared->Prop}{s:Shared}{id:String}{a b:Addr}{ms ns:List (Int × Int)}{Q:Bool->Shared->Prop}(ha:Kw s.heap a ms)(hb:Kw s.heap b ns)
 (h:Q (ms.length==ns.length&&ms.all fun p=>decide (lookI ns p.1=some p.2)) s):wpAny (model prog w) A (Builtin.Dict.samePairs id a b) Q E s:=by
 obtain⟨oa,es,ep,hoa,_,hda,YF⟩:=ha.ex;obtain⟨ob,fs,oF,hob,_,hdb,vL⟩:=hb.ex;have la:es.size=ms.length:=by rw[←YF.length];simp
 have lb:fs.size=ns.length:=by rw[←vL.length];simp
 unfold Builtin.Dict.samePairs
 have sh:∀{c:Addr}{Q:Unit->Shared->Prop},(c==sysModules)=false->Q () s->wpAny (model prog w) A (Builtin.Dict.showsAll c) Q E s:=fun {c Q} hc hq=>by
  unfold Builtin.Dict.showsAll;rw[if_neg (by rw[hc];exact qc2)];exact qa6 hq
 refine qa1 (sh ha.sys (qa1 (sh hb.sys ?_)));refine qa1 (qf6 hoa hda (qa1 (qf6 hob hdb ?_)));by_cases hl:ms.length=ns.length
 . rw[if_neg (by simp[la,lb,hl])];have e0:(ms.length==ns.length)=true:=by simp[hl]
   rw[e0,Bool.true_and]at h;refine qa1 (qk8 hoa hda ?_);rw[qq6]
   refine qa1 (qe2 (wpAny_forIn_list _ (fun rest r s'=>s'=s/\r=(none,())/\∃i,rest=List.range' i (ms.length-i) 1/\i<=ms.length/\∀p∈ms.take i,lookI ns p.1=some p.2)
    (fun r s'=>s'=s/\((r=(none,())/\(ms.all fun p=>decide (lookI ns p.1=some p.2))=true)\/(r=(some false,())/\(ms.all fun p=>decide (lookI ns p.1=some p.2))=false))) ?_ ?_ _ _ ⟨rfl,rfl,0,?_,qb6 _,by simp⟩) (fun r s' hr=>?_) fun _ _ e=>e)
   . rintro i rest r s' ⟨rfl,rfl,i1,hr,hi,hd⟩
     have hlt:i1<ms.length:=by
      refine Nat.lt_of_not_le fun z=>?_;rw[show ms.length-i1=0 by omega]at hr;cases hr
     rw[show ms.length-i1=(ms.length-(i1+1))+1 by omega,List.range'_succ]at hr;cases hr;have sO:i<es.size:=by omega
     obtain⟨k,v,t,t',hm,h1,h2,h3⟩:=YF.get (i:=i) (e:=es[i]) (by simp[sO])
     have hmi:ms[i]=(k,v):=by
      rw[qa0 hlt]at hm;exact qd4 hm
     refine qa1 (qf6 hoa hda ?_);rw[ql0 sO];dsimp only;refine qa1 (qe2 (Q:=fun same s''=>s''=s'/\same=decide (lookI ns k=some v)) (qf3 ?_) (fun same s'' hs=>?_) fun _ _ e=>e)
     . rw[h1,h2];refine qa1 (wpAny_dictFind_of (knd:=intKind prog w) (k:=k) (show Value.isInt k (.int k t)=true from by simp[Value.isInt]) hob hdb (UW vL) ?_)
       have ef:(fs.findIdx? fun e=>(intKind prog w).is k e.key)=ns.findIdx? fun p=>decide (p.1=k):=by
        rw[←vL.find k];show fs.findIdx? (fun e=>Value.isInt k e.key)=_;exact RS _ _
       rw[ef];cases hf:ns.findIdx? (fun p=>decide (p.1=k)) with
       | none =>
         dsimp only;refine qa6 ⟨rfl,?_⟩;rw[eY hf];rfl
       | some j =>
         obtain⟨v',hj,hl2⟩:=EX hf;have hjn:j<ns.length:=(qa2.mp hj).1;have hjf:j<fs.size:=by omega
         obtain⟨k2,v2,t2,t2',hm2,g1,g2,g3⟩:=vL.get (i:=j) (e:=fs[j]) (by simp[hjf]);rw[hj]at hm2;cases hm2;dsimp only;refine qa1 (qf6 hob hdb ?_);rw[ql0 hjf];dsimp only;refine qf3 ?_;rw[h3,g3];refine xY ⟨rfl,?_⟩;rw[hl2];by_cases q:v=v'
         . subst q;simp
         . have q':¬v'=v:=fun z=>q z.symm;simp[q,q']
     . obtain⟨rfl,hs⟩:=hs;by_cases q:lookI ns k=some v
       . rw[qd3 q]at hs;subst hs;rw[if_neg (by decide)];refine qa1 (qk8 hoa hda ?_);rw[if_neg (by simp)];refine qa6 ⟨rfl,rfl,i+1,rfl,hlt,fun p hp=>?_⟩;rw[qf1,qa0 hlt,hmi]at hp;rcases qd6.mp hp with hp | hp
         . exact hd p hp
         . have:p=(k,v):=by simpa using hp
           subst this;exact q
       . rw[qe3 q]at hs;subst hs;rw[if_pos (by decide)];refine qa6 ⟨rfl,.inr ⟨rfl,?_⟩⟩;rw[qs8];exact⟨(k,v),by rw[←hmi];exact qc7 hlt,by simpa using q⟩
   . rintro r s' ⟨rfl,rfl,i,hr,hi,hd⟩
     have e1:i=ms.length:=by
      refine Nat.le_antisymm hi (Nat.le_of_not_lt fun z=>?_);rw[show ms.length-i=(ms.length-(i+1))+1 by omega,List.range'_succ]at hr;cases hr
     subst e1;rw[qb9]at hd;exact⟨rfl,.inl ⟨rfl,qc8.mpr fun p hp=>qd3 (hd p hp)⟩⟩
   . simp[Std.Legacy.Range.size,la]
   . obtain⟨rfl,⟨rfl,e2⟩|⟨rfl,e2⟩⟩:=hr
     . rw[e2]at h;exact qa6 h
     . rw[e2]at h;exact qa6 h
 . rw[if_pos (by simp[la,lb];exact hl)];have e0:(ms.length==ns.length)=false:=by simp[hl]
   rw[e0,Bool.false_and]at h;exact qa1 (wpAny_rule (qa6 h))
end L2
namespace L2
open PySem PySem.Spec PyProof.Rows
section
variable{prog:Program}{w:World}{A:Around}{E:Value->Shared->Prop}
def j9:typeLookup (.type "list") "keys"=pure none:=am_miss_of_fast (by kernel_rfl)
def U7{s:Shared}{a:Addr}{xs:Array Value}{k:Nat}{Q:Option Value->Shared->Prop}
 (hx:s.heap.get? a=some { cls:=.type "list",data:=.seq xs k }) (hA:A.handled=none)
 (h:∀h' tk,(∀b o,s.heap.get? b=some o->h'.get? b=some o)->Q none { s with heap:=h',toks:=tk }) :
 wpAny (model prog w) A (getAttr? (.ref a) "keys") Q E s:=by
 obtain⟨hp,g,d,tk,os⟩:=s;have hT:∀tk',(⟨hp,g,d,tk',os⟩:Shared).TypeIs (.ref a) "list":=fun _=>⟨_,hx,rfl⟩
 have f1:=sub_AttributeError;have f3:=F.slot_list_getattribute.lookup;have f4:=F.slot_list_getattribute.bind (.ref a);have f5:=am_list_getattr_none;unfold getAttr? getAttrBy? getAttrBy
 repeat (any_goals (first | assumption | exact hT _ | ((with_reducible show wpAny _ _ (call (Value.builtin "list.__getattribute__") _ _) _ _ _);refine call_meets F.slot_list_getattribute (hT _) am_entry_list_getattribute (F.args_list_getattribute_2 _ _) (meets_getattribute_miss_list a xs k #[] "keys" _ j9 (by decide +kernel)) ⟨hx,hA,fun h' tk' e hx'=>?_⟩) | wp_step))
 obtain⟨t',u',he⟩:=hx'.there;show wpAny _ _ (getattributeRaised _ _ _ _ _ _ _) _ _ _;unfold getattributeRaised
 repeat (any_goals (first | assumption | wp_step))
 exact h _ _ hx'.keeps
def Jm:plainId "dict.update.loop"=true:=by decide +kernel
def So:entryFor table "dict.update.loop"=some Builtin.«dict.update.loop»:=entryFor_of_fast (by kernel_rfl)
variable{KT:Type}[DecidableEq KT]{knd:KeyKind prog w KT}
def zA(d it:Addr)(h0 h:Heap):Prop:=∀b o,b≠d->b≠it->h0.get? b=some o->h.get? b=some o
theorem jZ(hh:A.handled=none){d it l:Addr}{items:Array Value}{prs:List (KT × Value)}(hl:prs.length=items.size)(xS:d≠it)(nld:l≠d)(nli:l≠it){h0:Heap}(hL:h0.IsList l items)
 (hP:∀(i:Nat) (x:Value),items[i]?=some x->∃(p:KT × Value) (t:Addr) (key:Value),prs[i]?=some p/\x=.ref t/\t≠d/\t≠it/\h0.IsTuple t #[key,p.2]/\knd.is p.1 key=true) {R:Result->Shared->Prop} :
 ∀(n i:Nat) (s:Shared) (acc:List (KT × Value)),prs.length-i=n->i<=prs.length->acc.length+n<=sizeLine->s.heap.DictOf knd d acc->s.heap.IsListIter it l i->zA d it h0 s.heap →
   (∀h' tk,h'.DictOf knd d (merged acc (prs.drop i))->zA d it h0 h'->R (.ok (.ret .none)) { s with heap:=h',toks:=tk }) →
   codeAny (model prog w) A (.builtin "dict.update.loop" ⟨[.ref d,.ref it,rawInt i,.none],[]⟩) R s:=by
 intro n
 induction n with
 | zero =>
   intro i s acc hn hi hz hd hit hb k;refine codeAny_builtin So ?_;rw[qj6 Jm];have hLs:s.heap.IsList l items:=let ⟨o,ho,r⟩:=hL;⟨o,hb _ _ nld nli ho,r⟩
   have hx:items[i]?=none:=by simp;omega
   show wpAny _ _ (pyNext (.ref it)>>=_) _ _ s;refine qa1 (wpAny_pyNext_list_end hh hit hLs hx fun h' he=>?_);show wpAny _ _ (Builtin.Dict.addKeywords d []>>=_) _ _ _;refine qa1 (qa6 (qa6 ?_));have e:prs.drop i=[]:=by simp;omega
   have k':=k h' s.toks (by rw[e];exact hd.extBut he xS) fun b o n1 n2 q=>he b o n2 (hb b o n1 n2 q);exact k'
 | succ n ih =>
   intro i s acc hn hi hz hd hit hb k;refine codeAny_builtin So ?_;rw[qj6 Jm];have hLs:s.heap.IsList l items:=let ⟨o,ho,r⟩:=hL;⟨o,hb _ _ nld nli ho,r⟩
   have hlt:i<items.size:=by omega
   obtain⟨p,t,key,hp,ex,ntd,nti,hT,hkey⟩:=hP i items[i] (by simp[hlt]);show wpAny _ _ (pyNext (.ref it)>>=_) _ _ s;refine qa1 (wpAny_pyNext_list_item hit hLs (x:=items[i]) (by simp[hlt]) fun h1 Ag6 hs1=>?_);rw[ex];have hT1:h1.IsTuple t #[key,p.2]:=let ⟨o,ho,r⟩:=hT;⟨o,(hs1.2 t nti).trans (hb _ _ ntd nti ho),r⟩
   have hd1:h1.DictOf knd d acc:=hd.sameBut hs1 xS;obtain⟨o,ho,hc,m,hdat⟩:=hT1;refine qa1 (qf3 ?_);refine qa1 (ql8 ?_);unfold Builtin.Dict.pairItems;refine qa1 (wpAny_typeOf (show(({ s with heap:=h1 }:Shared).TypeIs (.ref t) "tuple") from⟨o,ho,hc⟩) ?_);rw[if_pos (by decide)];refine qa1 (ql9 ho hdat (qa6 ?_));show wpAny _ _ (holding [key,p.2] (dictSet d key p.2)) _ _ _;refine qf3 (wpAny_dictSet_pairs (s:={ s with heap:=h1 }) hkey hd1 (fun h2 hd2 hs2=>?_) (by omega));refine qa6 ⟨plainId_quiet Jm _,?_⟩
   have e2:prs.drop i=p::prs.drop (i+1):=by
    rw[List.drop_eq_getElem_cons (by omega)]
    congr 1
    rw[qa0 (by omega)]at hp;exact qd4 hp
   have hl2:=stored_length_le acc p.1 p.2;refine ih (i+1) { s with heap:=h2,toks:=s.toks+1 } (stored acc p.1 p.2) (by omega) (by omega) (by omega) hd2 ?_ (fun b o' n1 n2 q=>?_) (fun h' tk hd' hb'=>k h' tk (by rw[e2];exact hd') hb')
   . obtain⟨oi,hoi,ri⟩:=Ag6;exact⟨oi,(hs2.2 it (Ne.symm xS)).trans hoi,ri⟩
   . exact(hs2.2 b n1).trans ((hs1.2 b n2).trans (hb b o' n1 n2 q))
end
theorem vals_pair{x y:V}{us:List Value}(r:Vals [x,y] us):∃a b,us=[a,b]/\RelV x a/\RelV y b:=by
 cases r with
 | cons h1 r =>
   cases r with
   | cons h2 r =>
     cases r;exact⟨_,_,rfl,h1,h2⟩
theorem bC{P:Program}{w:World}{H:Hp}{h:Heap}(hok:Md P w H h):∀(ts:List Addr) (kvs:List (Key × V)),ts.length=kvs.length->(∀(i:Nat) t,ts[i]?=some t->∃kv:Key × V,kvs[i]?=some kv/\H t=some (.tup [kV kv.1,kv.2])) →
 ∃prs:List (Key × Value),KV kvs prs/\prs.length=ts.length/\∀(i:Nat) t,ts[i]?=some t->∃(p:Key × Value) (key:Value),prs[i]?=some p/\h.IsTuple t #[key,p.2]/\(mixKind P w).is p.1 key=true
 | [],[],_,_=>⟨[],.nil,rfl,fun i t e=>by simp at e⟩
 | [],_::_,hl,_=>by simp at hl
 | _::_,[],hl,_=>by simp at hl
 | t::ts,kv::kvs,hl,hk=>by
   obtain⟨prs,h1,h2,h3⟩:=bC hok ts kvs (by simpa using hl) fun i t e=>by
    obtain⟨kv',e1,e2⟩:=hk (i+1) t (by simpa using e);exact⟨kv',by simpa using e1,e2⟩
   obtain⟨kv',e1,e2⟩:=hk 0 t rfl;have YU:kv=kv':=by simpa using e1
   subst YU;obtain⟨_,its,rv,o,ho,hc,hdn,n,hd⟩:=hok t _ e2;obtain⟨a,b,rfl,ra,rb⟩:=vals_pair rv;refine⟨(kv.1,b)::prs,.cons ⟨rfl,rb⟩ h1,by simp[h2],fun i t' e=>?_⟩;cases i with
   | zero =>
     have:t=t':=by simpa using e
     subst this;exact⟨(kv.1,b),a,rfl,⟨o,ho,hc,n,hd⟩,kV_is ra⟩
   | succ i =>
     obtain⟨p,key,q1,q2,q3⟩:=h3 i t' (by simpa using e);exact⟨p,key,by simpa using q1,q2,q3⟩
def We{X:Cx}(hc:X.calm=true):CallR X (.type "dict") (fun xs H Q=>∃(p:Addr) (ts:List Addr) (kvs:List (Key × V)),xs=[.ref p]/\H p=some (.lst (ts.map V.ref))/\ts.length=kvs.length ∧
 (∀(i:Nat) t,ts[i]?=some t->∃kv:Key × V,kvs[i]?=some kv/\H t=some (.tup [kV kv.1,kv.2]))/\∀D,H D=none->Q (.ref D) (upd H D (.dK (Bn [] kvs)))):=by
 intro Ac s σ H xs us Q I r h;obtain⟨l,ts,kvs,rfl,hl,hlen,hk,q⟩:=h;obtain⟨u,rfl,ru⟩:=L5 r;cases ru;have hh:X.A.handled=none:=I.ok.hd hc;obtain⟨hz,its,n,rv,ho⟩:=I.hok l _ hl;rw[qa3]at hz;have hil:its.length=ts.length:=by rw[←rv.length,qa3]
 obtain⟨prs,hkv,hpl,hP⟩:=bC I.hok ts kvs hlen hk
 have at_:∀(i:Nat) (x:Value),its.toArray[i]?=some x->∃t,ts[i]?=some t/\x=.ref t:=fun i x e=>by
  have e':its[i]?=some x:=by simpa using e
  have hlt:i<its.length:=(qa2.mp e').1;have hb:ts[i]?=some (ts[i]'(by omega)):=by simp<;>omega
  obtain⟨u,hu,ru⟩:=rv.get (i:=i) (x:=V.ref (ts[i]'(by omega))) (by rw[qa7,hb];rfl);rw[e']at hu;cases hu;cases ru;exact⟨_,hb,rfl⟩
 refine callType_codes (Q₁:=fun obj s₁=>obj=.ref s.heap.objs.size/\s₁={ s with heap:=s.heap.push { cls:=.type "dict",data:=.dict #[] } }) PySem.F.kt_called_dict (PySem.F.kt_typeCall_dict_1 _) PySem.F.entry_dict_init (kt_code_dict_new _ ⟨rfl,rfl⟩) ?_;rintro obj s₁ ⟨rfl,rfl⟩;have hnew:(s.heap.push { cls:=.type "dict",data:=.dict #[] }).DictOf (mixKind X.prog X.w) s.heap.objs.size []:=Heap.DictOf.new s.heap;refine⟨hnew.typeIs,PySem.F.args_dict_init_2 _ _,?_⟩;unfold Builtin.«dict.__init__»;refine qa1 ?_;unfold Builtin.Dict.selfAndRest;refine qa1 (qk6 hnew.typeIs ?_);show wpAny _ _ (pure (s.heap.objs.size,[Value.ref l])) _ _ _;refine qa6 ?_;show wpAny _ _ (Builtin.Dict.updateFrom "dict.__init__" s.heap.objs.size (.ref l) [] .none) _ _ _;unfold Builtin.Dict.updateFrom;have ZJ:(s.heap.push { cls:=.type "dict",data:=.dict #[] }).get? l=some { cls:=.type "list",data:=.seq its.toArray n }:=qa4 _ ho;refine qa1 (wpAny_typeOf (show(({ s with heap:=s.heap.push { cls:=.type "dict",data:=.dict #[] } }:Shared).TypeIs (.ref l) "list") from⟨_,ZJ,rfl⟩) ?_);rw[if_pos (by decide)];refine qa1 (U7 ZJ hh fun h1 tk hk1=>?_);rw[if_pos (show(none:Option Value).isNone=true from rfl)];refine qa1 (wpAny_rule ?_);have hl1:h1.IsList l its.toArray:=⟨_,hk1 _ _ ZJ,rfl,n,rfl⟩
 refine qa1 (ql3 hl1 ?_);refine qa6 ⟨plainId_quiet Jm _,?_⟩;have lt0:l<s.heap.objs.size:=qa9 ho;have nD:∀b o,s.heap.get? b=some o->b≠s.heap.objs.size:=fun b o e=>qb8 (qa9 e);have up:∀b o,s.heap.get? b=some o->h1.get? b=some o:=fun b o e=>hk1 _ _ (qa4 _ e);have nI:∀b o,s.heap.get? b=some o->b≠h1.objs.size:=fun b o e=>qb8 (qa9 (up b o e));obtain⟨oD,esD,epD,zJ,rD⟩:=id hnew;have Fu:h1.DictOf (mixKind X.prog X.w) s.heap.objs.size []:=⟨oD,esD,epD,hk1 _ _ zJ,rD⟩
 have xS:s.heap.objs.size≠h1.objs.size:=qb8 (qa9 (hk1 _ _ zJ))
 refine jZ (knd:=mixKind X.prog X.w) (show X.A.in1.handled=none from hh) (prs:=prs) (items:=its.toArray) (l:=l) (d:=s.heap.objs.size) (it:=h1.objs.size) (h0:=h1.push { cls:=.type "list_iterator",data:=.fields #[.ref l,.int 0 0] }) (by simp;omega) xS (nD _ _ ho) (nI _ _ ho)
  ⟨_,qa4 _ (hk1 _ _ ZJ),rfl,n,rfl⟩ (fun i x e=>?_) prs.length 0 _ [] (by omega) (by omega) ?_ (Fu.push _) ⟨_,qb3 _ rfl,rfl,rfl⟩ (fun b o _ _ e=>e) (fun h' tk' hd' hb'=>?_)
 . obtain⟨t,e1,rfl⟩:=at_ i x e;obtain⟨p,key,e2,⟨o,ho',r'⟩,e4⟩:=hP i t e1;exact⟨p,t,key,e2,rfl,nD _ _ ho',nI _ _ ho',⟨o,qa4 _ (up _ _ ho'),r'⟩,e4⟩
 . have e0:([]:List (Key × Value)).length=0:=rfl;omega
 . refine⟨rfl,.ref s.heap.objs.size,upd H s.heap.objs.size (.dK (Bn [] kvs)),?_,rfl,q _ (I.hok.fresh (qa8 _))⟩
   have hzz:(Bn [] kvs).length<=sizeLine:=by
    have h1:=Jz kvs [];rw[qf7]at h1;omega
   refine I.laid (a:=s.heap.objs.size) (o:=.dK (Bn [] kvs)) (t':=tk') (fun b o e=>hb' b o (nD _ _ e) (nI _ _ e) (qa4 _ (up _ _ e))) (qa8 _) (R8 hzz (qj2.mpr (Ne.symm (qb8 I.big))) (hkv.merge .nil) ?_);simpa using hd'
theorem Li:∀(more kvs:List (Key × V)),((kvs++more).map (·.1)).Nodup->Bn kvs more=kvs++more
 | [],kvs,_=>by simp[Bn]
 | p::more,kvs,h=>by
   have hnot:(kvs.any fun kv=>decide (kv.1=p.1))=false:=by
    rw[qo6];intro kv hkv hd;have e:kv.1=p.1:=by simpa using hd
    rw[qb1,List.nodup_append]at h;exact h.2.2 kv.1 (qg3 hkv) p.1 (by simp) e
   have e:Ld kvs p.1 p.2=kvs++[p]:=by
    unfold Ld;rw[if_neg (by rw[hnot];decide)]
   show Bn (Ld kvs p.1 p.2) more=_;rw[e,Li more (kvs++[p]) (by simpa using h)];simp
end L2
namespace L2
open PySem PySem.Spec PyProof.Rows PySem.SeqAt
def U4(a b:Addr)(ms ns:List (Int × Int)):Meets (Builtin.«dict.__eq__» ⟨[.ref a,.ref b],[]⟩) (fun A R s=>Kw s.heap a ms/\Kw s.heap b ns/\R (.ok (.ret (.bool (ms.length==ns.length&&ms.all fun p=>decide (lookI ns p.1=some p.2))))) s) :=
 Meets.of_wp fun prog w A R s hs=>by
  obtain⟨ha,hb,h⟩:=hs
  show wpAny (model prog w) A.in1 (do
   let (self,other) ←Builtin.Dict.dictSlotArgs "__eq__" ⟨[.ref a,.ref b],[]⟩
   if !(←isInstance other (.type "dict")) then rule s!"dict.{"__eq__"}.not-a-dict";return ←ret .notImplemented
   ret (.bool ((←Builtin.Dict.samePairs s!"dict.{"__eq__"}" (←Builtin.Dict.addrOf self) (←Builtin.Dict.addrOf other))==true))) _ _ s
  unfold Builtin.Dict.dictSlotArgs;refine qa1 (qa1 (qk6 ha.typeIs ?_));refine qa1 (qa6 ?_);refine qa6 ?_;refine qa1 (qn7 (T:="dict") (b:=true) hb.typeIs isSubtype_dict_dict ?_);rw[if_neg (by decide)];refine qa1 (qa6 (qa1 (qa6 (qa1 (Pz ha hb ?_)))));have e:∀b:Bool,(b==true)=b:=by decide
  rw[e];exact qa6 ⟨_,rfl,h⟩
def RcAt.dicts{A:Around}{s:Shared}{a b:Addr}{ms ns:List (Int × Int)}(ha:Kw s.heap a ms)(hb:Kw s.heap b ns)(hu:A.units<cLine) :
 RcAt A s (.ref a) (.ref b) (ms.length==ns.length&&ms.all fun p=>decide (lookI ns p.1=some p.2)):=fun prog w E Q h =>
 richCompare_meets_room (op:=.Eq) ha.typeIs hb.typeIs PySem.F.slot_dict_eq PySem.F.entry_dict_eq (PySem.F.args_dict_eq_2 _ _) (U4 a b ms ns)
  ⟨ha,hb,show Value.bool (ms.length==ns.length&&ms.all fun p=>decide (lookI ns p.1=some p.2))≠Value.notImplemented/\_ from⟨(fun x=>nomatch x),h⟩⟩ hu
end L2
namespace L2
open PySem PySem.Spec PyProof.Rows
section
variable{X:Cx}{Ac:LAObj}{σ:St}{H:Hp}{s:Shared}{a:Addr}{kvs:List (Key × V)}
def Inv.freeze(I:Inv X Ac σ H s)(e:H a=some (.dK kvs)):∃o,Inv X Ac σ (upd H a (.frz o (.dK kvs))) s:=by
 obtain⟨z,y,vs,r,o,es,ep,ho,c⟩:=id (I.hok a _ e);refine⟨o,?_⟩;have ne:∀b u,H b=some u->u≠.dK kvs->b≠a:=fun b u q n z=>by rw[z,e]at q;exact n (qd4 q).symm
 have up:∀b u,H b=some u->u≠.dK kvs->upd H a (.frz o (.dK kvs)) b=some u:=fun b u q n=>by rw[Ai (ne b u q n)];exact q
 refine I.step (g':=s.gens) (t':=s.toks) (d':=s.drawn) (h':=s.heap) (H':=upd H a (.frz o (.dK kvs))) (ch:=[]) (fun _ q=>nomatch q) (fun b ob _ _ _ q _=>q) (fun b ob _ _ _ q _=>⟨ob.slots,q⟩) (fun b ob _ q n=>by rw[Ai (fun z=>by rw[z,e]at n;cases n)];exact n) (fun b ob _ q=>⟨ob,q⟩)
  (fun b xs q=>up b _ q (by intro z;cases z)) (fun b ob u q=>up b _ q (by intro z;cases z)) (fun b ps q=>⟨#[],by rw[up b _ q (by intro z;cases z)];simp⟩) (fun m q=>q) (fun b u q=>?_) I.bare
 by_cases hb:b=a
 . subst hb;rw[Ab]at q;cases q;exact⟨ho,(I.hok b _ e).stay (fun _ _ _ q=>q) (fun c q=>up c _ q (by intro z;cases z)) fun c xs q=>up c _ q (by intro z;cases z)⟩
 . rw[Ai hb]at q;exact(I.hok b u q).stay (fun _ _ _ q=>q) (fun c q=>up c _ q (by intro z;cases z)) fun c xs q=>up c _ q (by intro z;cases z)
def Inv.thaw{o:Obj}(I:Inv X Ac σ H s)(e:H a=some (.frz o (.dK kvs)))(hb:∀ob u,X.H₀ a≠some (.frz ob u)):Inv X Ac σ (upd H a (.dK kvs)) s:=by
 have ne:∀b u,H b=some u->u≠.frz o (.dK kvs)->b≠a:=fun b u q n z=>by rw[z,e]at q;exact n (qd4 q).symm
 have up:∀b u,H b=some u->u≠.frz o (.dK kvs)->upd H a (.dK kvs) b=some u:=fun b u q n=>by rw[Ai (ne b u q n)];exact q
 have no:∀b,H b=none->upd H a (.dK kvs) b=none:=fun b n=>by rw[Ai (fun z=>by rw[z,e]at n;cases n)];exact n
 refine⟨I.ok,I.os,I.bare,⟨I.base.keep,I.base.slot,fun b ob q n x=>no b (I.base.free b ob q n x),I.base.there,fun b xs q=>up b _ (I.base.tups b xs q) (by intro z;cases z),fun b ob u q=>?_,fun b ps q=>?_⟩,I.loc,I.cell,no _ I.free,fun x c q=>no _ (I.freeC x c q),fun p hp=>?_,fun b u q=>?_,I.len⟩
 . have hne:b≠a:=fun z=>hb ob u (z▸q);rw[Ai hne];exact I.base.frzs b ob u q
 . obtain⟨m,q'⟩:=I.base.tbls b ps q;exact⟨m,up b _ q' (by intro z;cases z)⟩
 . obtain⟨p1,p2,p3⟩:=I.pin p hp;exact⟨p1,no _ p2,p3⟩
 . by_cases hba:b=a
   . subst hba;rw[Ab]at q;cases q;obtain⟨_,q'⟩:=I.hok b _ e;exact q'.stay (fun _ _ _ q=>q) (fun c q=>up c _ q (by intro z;cases z)) fun c xs q=>up c _ q (by intro z;cases z)
   . rw[Ai hba]at q;exact(I.hok b u q).stay (fun _ _ _ q=>q) (fun c q=>up c _ q (by intro z;cases z)) fun c xs q=>up c _ q (by intro z;cases z)
def Inv.notfrz(I:Inv X Ac σ H s)(e:H a=some (.dK kvs)):∀ob u,X.H₀ a≠some (.frz ob u):=fun ob u q=>by
 have:=I.base.frzs a ob u q;rw[e]at this;cases this
def Inv.nodupK(I:Inv X Ac σ H s)(e:Rd H a (.dK kvs)):(kvs.map (·.1)).Nodup:=by
 obtain⟨z,hd,vs,rel,o,es,ep,_,_,_,_,_,hn⟩:=Nl I.hok e;rw[rel.keys];exact hn
end
def tFrz(t:TE):TE:=fun σ H Q=>t σ H Q\/∃(a:Addr) (kvs:List (Key × V)),H a=some (.dK kvs)/\((kvs.map (·.1)).Nodup->∀o:Obj,t σ (upd H a (.frz o (.dK kvs))) fun v H'=>H' a=some (.frz o (.dK kvs))/\Q v (upd H' a (.dK kvs)))
def Aa8(t:TS):TS:=fun D σ H=>t D σ H\/∃(a:Addr) (kvs:List (Key × V)),H a=some (.dK kvs)/\((kvs.map (·.1)).Nodup->∀o:Obj,t ⟨fun σ' H'=>H' a=some (.frz o (.dK kvs))/\D.nx σ' (upd H' a (.dK kvs)),fun v H'=>H' a=some (.frz o (.dK kvs))/\D.rt v (upd H' a (.dK kvs)),
 fun σ' H'=>H' a=some (.frz o (.dK kvs))/\D.bk σ' (upd H' a (.dK kvs)),fun σ' H'=>H' a=some (.frz o (.dK kvs))/\D.ct σ' (upd H' a (.dK kvs))⟩ σ (upd H a (.frz o (.dK kvs))))
def MG{X:Cx}{e:Expr}{t:TE}(h:PE X e t):PE X e (tFrz t):=by
 intro Ac s σ H Q I hw;rcases hw with hw|⟨a,kvs,ea,hw⟩
 . exact h Ac s σ H Q I hw
 . obtain⟨o,I'⟩:=I.freeze ea;have hb:=I.notfrz ea;refine Cz (h Ac s σ _ _ I' (hw (I.nodupK (.inl ea)) o)) fun u s' ⟨v,H',I2,r,e2,q⟩=>⟨v,_,I2.thaw e2 hb,r,q⟩
theorem Le{X:Cx}{st:Stmt}{t:TS}(h:PS X st t):PS X st (Aa8 t):=by
 intro Ac s σ H D I hw;rcases hw with hw|⟨a,kvs,ea,hw⟩
 . exact h Ac s σ H D I hw
 . obtain⟨o,I'⟩:=I.freeze ea;have hb:=I.notfrz ea;refine Cz (h Ac s σ _ _ I' (hw (I.nodupK (.inl ea)) o)) fun f s' hq=>?_;cases f with
   | next=>obtain⟨σ',H',I2,e2,q⟩:=hq;exact⟨σ',_,I2.thaw e2 hb,q⟩
   | brk=>obtain⟨σ',H',I2,e2,q⟩:=hq;exact⟨σ',_,I2.thaw e2 hb,q⟩
   | cont=>obtain⟨σ',H',I2,e2,q⟩:=hq;exact⟨σ',_,I2.thaw e2 hb,q⟩
   | ret u=>obtain⟨v,σ',H',I2,r,e2,q⟩:=hq;exact⟨v,σ',_,I2.thaw e2 hb,r,q⟩
def u5{X:Cx}{Ac:LAObj}{σ:St}{H:Hp}{s:Shared}{a:Addr}{kvs:List (Key × V)}{o:Obj}(I:Inv X Ac σ H s)(e:H a=some (.frz o (.dK kvs))) :
 s.heap.get? a=some o/\(a==sysModules)=false/\kvs.length<=sizeLine/\∃vs es ep,KV kvs vs/\o.data=.dict es ep/\es.size=kvs.length/\o.ExactDict/\s.heap.DictAt (mixKind X.prog X.w) a vs ep:=by
 obtain⟨ho,z,y,vs,r,o',es,ep,ho',ex,hd,hk,hp,hn⟩:=I.hok a _ e;rw[ho]at ho';cases ho';refine⟨ho,y,z,vs,es,ep,r,hd,?_,ex,⟨o,es,ho,ex,hd,hk,hp,hn⟩⟩;rw[r.length,←hp.length];simp
theorem KV.getV:∀{kvs:List (Key × V)}{vs:List (Key × Value)}{i:Nat}{k:Key}{v:V},KV kvs vs->kvs[i]?=some (k,v)->∃u,vs[i]?=some (k,u)/\RelV v u
 | _,_,i,k,v,.nil,e=>by simp at e
 | _,_,0,k,v,.cons (b:=q) r t,e=>by
   simp only[qp2,Option.some.injEq]at e;subst e;obtain⟨k',u⟩:=q;have e1:k=k':=r.1;subst e1;exact⟨u,by simp,r.2⟩
 | _,_,i+1,k,v,.cons r t,e=>by
   obtain⟨u,e1,e2⟩:=KV.getV (i:=i) t (by simpa using e);exact⟨u,by simpa using e1,e2⟩
def NP{P:Program}{w:World}{k:Key}{u:Value}(h:(mixKind P w).is k u=true):RelV (kV k) u:=by
 rcases Ci h with⟨i,t,rfl,rfl⟩|⟨x,t,rfl,rfl⟩
 . exact⟨t,rfl⟩
 . exact⟨t,rfl⟩
noncomputable def RU(d:Addr)(o:Obj):It :=
 ⟨fun i H=>∃kvs k v,H d=some (.frz o (.dK kvs))/\kvs[i]?=some (k,v),
  fun i H x H'=>∃p k v,H p=none/\x=.ref p/\H'=upd H p (.tup [kV k,v])/\∀kvs,H d=some (.frz o (.dK kvs))->kvs[i]?=some (k,v),
  fun i H=>∃kvs,H d=some (.frz o (.dK kvs))/\kvs.length<=i⟩
def L6{prog:Program}{w:World}{A:Around}{E:Value->Shared->Prop}{s:Shared}{it d:Addr}{i n ep:Nat}{ok ov:Value}{Q:Value->Shared->Prop}(hit:IsItemIter s.heap it d i n ep ok ov)(h:Q (.ref it) s):wpAny (model prog w) A (pyIter (.ref it)) Q E s:=by
 have hT:s.TypeIs (.ref it) "dict_itemiterator":=⟨_,hit,rfl⟩
 refine wpAny_pyIter_slot hT qr2 (qf5 qr2 hT (entryFor_alias (id':="dict_keyiterator.__iter__") (by kernel_rfl) rfl (by decide +kernel) (by kernel_rfl):entryFor table "dict_itemiterator.__iter__"=some Builtin.«dict_keyiterator.__iter__») ?_ (PySem.F.args_dict_itemiterator_iter_1 _));show wpAny _ _ (ret (.ref it)) _ _ s;exact qa6 ⟨_,rfl,"dict_itemiterator",_,hT,PySem.F.slot_dict_itemiterator_next.lookup,h⟩
def Ua{P:Program}{w:World}{K:W.Frag}{tP:List Expr}{x1:Nat}{tpos:Pos}(d it:Addr)(o:Obj){es:Array DictEntry}{ep:Nat}(hd:o.data=.dict es ep) :
 Xt P w K (.Tuple tP x1 tpos) (RU d o) [it] it (fun i h=>∃ok ov,IsItemIter h it d i es.size ep ok ov) where
 mem:=by simp
 obj:=fun i h st b hb=>by
  obtain⟨ok,ov,h1⟩:=st;have z:b=it:=by simpa using hb
  subst z;exact⟨_,h1,fun v q=>by cases (show Data.fields _=Data.cell v from q)⟩
 keep:=fun i h h' st k=>by
  obtain⟨ok,ov,h1⟩:=st;exact⟨ok,ov,k it (by simp) _ h1⟩
 item:=by
  intro X hP hw hK hc i Ac s σ H E I hf st hg;subst hP hw hK;obtain⟨ok,ov,hit⟩:=st;obtain⟨kvs,k,v,hz,hx⟩:=hg;obtain⟨ho,hsys,hl,vs,es',oF,rel,hd',hsz,ex,hm⟩:=u5 I hz;rw[hd]at hd';cases hd';obtain⟨u,hu,ru⟩:=rel.getV hx;have hn:es.size=vs.length:=by rw[hsz,rel.length]
  have fi:=hf it (by simp);have xW:it<s.heap.objs.size:=qa9 hit;have hfresh:H s.heap.objs.size=none:=I.hok.fresh (qa8 _);rw[hn]at hit;refine wpAny_pyNext_items_item hit hm hu fun key h' hkey hout htup hsz' hk=>?_;refine⟨_,rfl,wpAny_letOwnedTupleGo_items hout fun h3 hen Th=>?_⟩
  replace Th:Heap.SameBut it h' h3:=Th
  have kk:∀b ob,b ∉ [it]->s.heap.get? b=some ob->h3.get? b=some ob:=fun b ob n z=>by
   have n1:b≠it:=by simpa using n
   exact(Th.2 b n1).trans (hk b ob n1 z)
  have vF:h3.get? s.heap.objs.size=some { cls:=.type "tuple",data:=.seq #[key,u] }:=(Th.2 _ (qi5 xW)).trans htup;have AI:∀c ob,H c=some ob->c ∉ [it]:=fun c ob e hm=>by rw[(hf c hm).1]at e;cases e
  have Uu:∀b ob,H b=some ob->b≠s.heap.objs.size:=fun b ob z=>Ap z hfresh;refine⟨.ref s.heap.objs.size,upd H s.heap.objs.size (.tup [kV k,v]),?_,rfl,⟨s.heap.objs.size,k,v,hfresh,rfl,rfl,fun kvs' q=>by rw[hz]at q;cases q;exact hx⟩,⟨_,_,by rw[hn];exact hen⟩,fun b hb=>?_⟩
  . refine Inv.step (s:=s) (h':=h3) (t':=s.toks) (H':=upd H s.heap.objs.size (.tup [kV k,v])) I (g':=s.gens) (d':=s.drawn) (ch:=[it]) (fun b hb=>?_) (fun b ob _ _ hb z _=>kk b ob hb z) (fun b ob _ _ hb z _=>⟨ob.slots,kk b ob hb z⟩) (fun b ob hb z n=>?_) (fun b ob hb z=>⟨ob,kk b ob hb z⟩)
     (fun b ys z=>by rw[Ai (Uu b _ z)];exact z) (fun b ob w' z=>by rw[Ai (Uu b _ z)];exact z) (fun b ps z=>⟨#[],by rw[Ai (Uu b _ z),z];simp⟩) (fun m hm=>?_) (fun b w' z=>?_) I.bare
    . have f:=hf b hb;exact⟨f.2.2.2.1,f.2.1,f.2.2.2.2.1,f.2.2.2.2.2⟩
    . rw[Ai (qb8 (qa9 z))];exact n
    . obtain⟨ob,es',oF,hob,r⟩:=hm;exact⟨ob,es',oF,kk _ ob (fun q=>(hf _ q).2.1 rfl) hob,r⟩
    . by_cases hb:b=s.heap.objs.size
      . subst hb;rw[Ab]at z;cases z;exact⟨(by show(2:Nat)<=sizeLine;decide),[key,u],.cons (NP hkey) (.cons ru .nil),⟨_,vF,rfl,rfl,_,rfl⟩⟩
      . rw[Ai hb]at z;refine(I.hok b w' z).stay (fun c y hc' q=>?_) (fun c q=>by rw[Ai (Uu c _ q)];exact q) fun c ys q=>by rw[Ai (Uu c _ q)];exact q
        rcases hc' with rfl | hc'
        . exact kk _ _ (AI _ _ z) q
        . exact kk _ _ (AI _ _ hc') q
  . have z:b=it:=by simpa using hb
    subst z;rw[Ai (qb8 xW)];exact(hf b hb).1
 done:=by
  intro X hP hw hK hc i Ac s σ H E I hf st hg;subst hP hw hK;obtain⟨ok,ov,hit⟩:=st;obtain⟨kvs,hz,hx⟩:=hg;obtain⟨ho,hsys,hl,vs,es',oF,rel,hd',hsz,ex,hm⟩:=u5 I hz;rw[hd]at hd';cases hd';have hn:es.size=vs.length:=by rw[hsz,rel.length]
  have hl2:=rel.length;rw[hn]at hit;exact wpAny_pyNext_items_end (I.ok.hd hc) hit hm (by simp;omega) fun h' eb=>⟨rfl,I.turnedN (t':=s.toks) (fp:=[it]) (fun b ob hb z=>eb b ob (by simpa using hb) z) hf⟩
 self:=fun _ _ _ _ _ st h=>by
  obtain⟨ok,ov,hit⟩:=st;exact L6 hit h
def vE(td:TE):TI:=fun σ H R=>td σ H fun x H1=>∃d o kvs,x=.ref d/\H1 d=some (.frz o (.dK kvs))/\R (RU d o) H1
def Fl{X:Cx}{tP:List Expr}{x1:Nat}{tpos apos cpos:Pos}{e:Expr}{td:TE}(he:PE X e td)
 (hbase:attributeBase e "items" X.env (eval e X.env)=eval e X.env:=by rfl) (hline:(apos.endLine==cpos.line)=true:=by rfl):PI X (.Tuple tP x1 tpos) (.Call (.Attribute e "items" apos) [] [] cpos) (vE td):=by
 intro Ac s σ H R I h;refine qq8 hbase hline (Cz (he Ac s σ H _ I h) fun v s1 _z=>?_);obtain⟨x,H1,I1,r1,d,o,kvs,ex,hz,q⟩:=_z;subst ex;obtain rfl:v=Value.ref d:=r1;obtain⟨ho,hsys,hl,vs,es,ep,rel,hd,hsz,pM,hm⟩:=u5 I1 hz;refine⟨"dict","dict.items",qh6,qj3,qo8,⟨o,ho,pM.1⟩,fun b e=>by cases e;exact⟨o,ho,pM.2.1⟩,qg5 rfl (qn4 ?_)⟩;refine call_meetsIn qj3 hm.dictOf.typeIs PySem.F.entry_dict_items (PySem.F.args_dict_items_1 _) (meets_dict_items (mixKind X.prog X.w) d hsys) ⟨⟨vs,hm.dictOf⟩,?_⟩;have I2:Inv X Ac σ H1 { s1 with heap:=s1.heap.push { cls:=.type "dict_items",data:=.fields #[.ref d] } }:=I1.kept (t':=s1.toks) fun b ob z=>qa4 _ z;have hm2:=hm.push { cls:=.type "dict_items",data:=.fields #[.ref d] };refine wpAny_pyIter_items (s:={ s1 with heap:=s1.heap.push { cls:=.type "dict_items",data:=.fields #[.ref d] } }) (v:=s1.heap.objs.size) (d:=d) ⟨_,qb3 _ rfl,rfl,rfl⟩ hm2 ?_;have hsz2:(s1.heap.push { cls:=.type "dict_items",data:=.fields #[.ref d] }).objs.size=s1.heap.objs.size+1:=qj0 ..;refine⟨_,[_],_,RU d o,H1,rfl,I2.kept (t':=s1.toks) fun b ob z=>qa4 _ z,Ua d _ o hd,⟨.none,.none,?_⟩,fun b hb=>?_,q⟩
 . rw[hsz,rel.length];exact qb3 _ rfl
 . have z:b=(s1.heap.push { cls:=.type "dict_items",data:=.fields #[.ref d] }).objs.size:=by simpa using hb
   subst z;exact I2.fpOk (qa8 _) (I2.hok.fresh (qa8 _))
section
variable{g:TG}{tc:TT}{te:TE}{D:Addr}{Q:Hp->Prop}{τ:St}{H:Hp}
def V2{d:Addr}{o:Obj}{kvs:List (Key × V)}(Pv:Nat->List V->St->Hp->Prop)(h0:Pv 0 [] τ H)(hl:∀i zs τ H,i<=kvs.length->Pv i zs τ H->H d=some (.frz o (.dK kvs)))
 (hs:∀i k v zs τ H p,kvs[i]?=some (k,v)->Pv i zs τ H->H p=none->g (.ref p) τ (upd H p (.tup [kV k,v])) fun τ2 H2=>tc τ2 H2 fun b H3=>if b=true then te τ2 H3 fun y H4=>H4 D=some (.lst zs)/\zs.length<sizeLine/\Pv (i+1) (zs++[y]) τ2 (upd H4 D (.lst (zs++[y]))) else Pv (i+1) zs τ2 H3)
 (hd:∀zs τ H,Pv kvs.length zs τ H->Q H):Tm (RU d o) g tc te D Q τ H:=by
 refine⟨fun i m zs τ H=>m=kvs.length-i/\i<=kvs.length/\Pv i zs τ H,⟨kvs.length,by simp,qb6 _,h0⟩,?_⟩;rintro i m zs τ H ⟨rfl,hi,pp⟩;have q:=hl i zs τ H hi pp;by_cases hlt:i<kvs.length
 . refine .inr ⟨⟨kvs,kvs[i].1,kvs[i].2,q,by simp[hlt]⟩,Pv (i+1),fun ys' τ' H' p'=>⟨kvs.length-(i+1),by omega,rfl,hlt,p'⟩,fun x H' y=>?_⟩;obtain⟨p,k,v,hp,rfl,rfl,y⟩:=y;exact hs i k v zs τ _ p (y kvs q) pp hp
 . have e:i=kvs.length:=by omega
   subst e;exact .inl ⟨⟨kvs,q,qa8 _⟩,hd zs τ H pp⟩
def Ei{d:Addr}{o:Obj}{kvs:List (Key × V)}{g:TG}{tb:TS}{D:Ends}{σ:St}{H:Hp}(Pv:Nat->St->Hp->Prop)(h0:Pv 0 σ H)(hl:∀i σ H,i<=kvs.length->Pv i σ H->H d=some (.frz o (.dK kvs)))
 (hs:∀i k v σ H p,kvs[i]?=some (k,v)->Pv i σ H->H p=none->g (.ref p) σ (upd H p (.tup [kV k,v])) fun σ2 H2=>tb { D with nx:=Pv (i+1),ct:=Pv (i+1),bk:=D.nx } σ2 H2) (hd:∀σ H,Pv kvs.length σ H->D.nx σ H) :
 ∃W:Nat->Nat->St->Hp->Prop,(∃m,W 0 m σ H)/\∀i m σ H,W i m σ H →
   ((RU d o).stop i H/\D.nx σ H)\/((RU d o).go i H/\∃N:St->Hp->Prop,(∀σ' H',N σ' H'->∃m',m'<m/\W (i+1) m' σ' H')/\∀x H',(RU d o).yld i H x H'->g x σ H' fun σ2 H2=>tb { D with nx:=N,ct:=N,bk:=D.nx } σ2 H2):=by
 refine⟨fun i m σ H=>m=kvs.length-i/\i<=kvs.length/\Pv i σ H,⟨kvs.length,by simp,qb6 _,h0⟩,?_⟩;rintro i m σ H ⟨rfl,hi,pp⟩;have q:=hl i σ H hi pp;by_cases hlt:i<kvs.length
 . refine .inr ⟨⟨kvs,kvs[i].1,kvs[i].2,q,by simp[hlt]⟩,Pv (i+1),fun σ' H' p'=>⟨kvs.length-(i+1),by omega,rfl,hlt,p'⟩,fun x H' y=>?_⟩;obtain⟨p,k,v,hp,rfl,rfl,y⟩:=y;exact hs i k v σ _ p (y kvs q) pp hp
 . have e:i=kvs.length:=by omega
   subst e;exact .inl ⟨⟨kvs,q,qa8 _⟩,hd σ H pp⟩
end
end L2
namespace L2
open PySem PySem.Spec PyProof.Rows PySem.SeqAt
theorem nR{P:Program}{w:World}{es:List DictEntry}{vs:List (Key × Value)}(hp:Pairs (mixKind P w) es vs):∀{ms:List (Int × Int)},(∀e∈es,∃k,(mixKind P w).is k e.key=true/\e.hash=(mixKind P w).hash k)->KV (cK ms) vs->L9 es ms:=by
 induction hp with
 | nil =>
   intro ms _ r;cases ms with
   | nil=>exact .nil
   | cons p ms=>cases r
 | @cons e kv es kvs h1 h2 _ ih =>
   intro ms hk r;cases ms with
   | nil=>cases r
   | cons p ms =>
     cases r with
     | cons r0 r1 =>
       obtain⟨k,v⟩:=kv;obtain⟨e1,t',e2⟩:=r0;have YU:Sum.inl p.1=k:=e1;subst YU;obtain⟨t,ek⟩:=(show ∃t,e.key=Value.int p.1 t from NP h1)
       obtain⟨k',hk1,hk2⟩:=hk e (qb2 ..)
       have ek':k'=Sum.inl p.1:=by
        rw[ek]at hk1;rcases Ci hk1 with⟨i,t2,z1,z2⟩|⟨x,t2,z1,z2⟩
        . cases z2;exact z1
        . cases z2
       subst ek';obtain⟨p1,p2⟩:=p;exact .cons ek hk2 (h2.trans e2) (ih (fun e' he=>hk e' (qb0 _ he)) r1)
def Mt{ms:List (Int × Int)}:((cK ms).map (·.1)).Nodup↔(ms.map (·.1)).Nodup:=by
 unfold cK List.Nodup;rw[qh9,qm6,qm6];constructor
 . intro h;exact h.imp fun {a b} n z=>n (by simp[z])
 . intro h;exact h.imp fun {a b} n z=>n (by simpa using z)
section
variable{X:Cx}{Ac:LAObj}{σ:St}{H:Hp}{s:Shared}{a:Addr}{ms:List (Int × Int)}
def Inv.nodupC(I:Inv X Ac σ H s)(e:Rd H a (.dK (cK ms))):(ms.map (·.1)).Nodup:=Mt.mp (I.nodupK e)
def Inv.idict(I:Inv X Ac σ H s)(e:Rd H a (.dK (cK ms))):Kw s.heap a ms:=by
 obtain⟨z,hd,vs,rel,o,es,ep,ho,ex,hda,hk,hp,hn⟩:=Nl I.hok e;exact⟨⟨o,es,ep,ho,ex,hda,nR hp (fun e he=>hk e (by simpa using he)) rel⟩,hd,I.nodupC e⟩
end
def sameC(ms ns:List (Int × Int)):Bool:=ms.length==ns.length&&ms.all fun p=>decide (lookI ns p.1=some p.2)
def Ab8:R2:=fun x y H Q=>∃a b ms ns,x=.ref a/\y=.ref b/\Rd H a (.dK (cK ms))/\Rd H b (.dK (cK ns))/\Q (.bl (sameC ms ns)) H
section
variable{X:Cx}{n:Nat}{K:W.Frag}
def Uo(hu:X.A.units+n<cLine):OpR X (compareOp .Eq) Ab8:=by
 intro Ac s σ H x y v u Q I rx ry h;obtain⟨a,b,ms,ns,rfl,rfl,ha,hb,q⟩:=h;cases rx;cases ry;exact RcAt.dicts (I.idict ha) (I.idict hb) (by omega) X.prog X.w X.xe _ ⟨.bl (sameC ms ns),H,I,rfl,q⟩
end
end L2
namespace L2
open PySem PySem.Spec PyProof.Rows
def Pi{X:Cx}:CallR X (.type "dict") (fun xs H Q=>∃a kvs,xs=[.ref a]/\Rd H a (.dK kvs)/\∀p,H p=none->Q (.ref p) (upd H p (.dK kvs))):=by
 intro Ac s σ H xs us Q I r h;obtain⟨a,kvs,rfl,e,q⟩:=h;obtain⟨u,rfl,rx⟩:=L5 r;cases rx;exact CK I e fun p s' hp I'=>⟨.ref p,_,I',rfl,q p hp⟩
def u1{n c:Nat}(h:n+8<c):n+1<c:=by omega
def Be(ms:List (Int × Int))(k:Int):Int:=(lookI ms k).getD 0
noncomputable def putI(ms:List (Int × Int))(k v:Int):List (Int × Int):=if (ms.any fun p=>decide (p.1=k))=true then ms.map (fun p=>if p.1=k then(p.1,v) else p) else ms++[(k,v)]
noncomputable def Fy(ms:List (Int × Int))(k:Int):List (Int × Int):=ms.filter fun p=>decide (p.1≠k)
def oZ(ms:List (Int × Int))(k v:Int):Ld (cK ms) (Sum.inl k) (V.int v)=cK (putI ms k v):=by
 unfold Ld putI cK
 have e:((ms.map fun p=>((Sum.inl p.1:Key),V.int p.2)).any fun kv=>decide (kv.1=Sum.inl k))=(ms.any fun p=>decide (p.1=k)):=by
  rw[List.any_map]
  congr 1
  funext p
  simp
 rw[e];split
 . rw[qh9,qh9]
   congr 1
   funext p
   simp only[Function.comp];by_cases q:p.1=k
   . simp[q]
   . have q':¬(Sum.inl p.1:Key)=Sum.inl k:=fun z=>q (by simpa using z);simp[q]
 . simp
def RQ(ms:List (Int × Int))(k:Int):Vw (cK ms) (Sum.inl k)=cK (Fy ms k):=by
 unfold Vw Fy cK;rw[List.filter_map]
 congr 1
 congr 1
 funext p
 simp
def gA(ms:List (Int × Int))(k:Int):Me (cK ms) (Sum.inl k)=(lookI ms k).map V.int:=by
 unfold lookI cK Me;rw[List.find?_map,Option.map_map,Option.map_map]
 have e:((fun p:Key × V=>decide (p.1=Sum.inl k)) ∘ fun p:Int × Int=>((Sum.inl p.1:Key),V.int p.2))=fun p:Int × Int=>decide (p.1=k):=by
  funext p
  simp
 rw[e];rfl
def T0(ms:List (Int × Int))(k:Int):((lookI ms k).map V.int).getD (V.int 0)=V.int (Be ms k):=by
 unfold Be;cases lookI ms k<;>rfl
def Cl(p:Int × Int)(ms:List (Int × Int))(k:Int):lookI (p::ms) k=if p.1=k then some p.2 else lookI ms k:=by
 unfold lookI;by_cases q:p.1=k
 . rw[List.find?_cons_of_pos (by simpa using q),if_pos q];rfl
 . rw[List.find?_cons_of_neg (by simpa using q),if_neg q]
theorem Yi(ms:List (Int × Int))(k v j:Int):lookI (putI ms k v) j=if j=k then some v else lookI ms j:=by
 have hs:∀(ns:List (Int × Int)),lookI (ns.map (fun p=>if p.1=k then(p.1,v) else p)) j=if j=k then(lookI ns j).map (fun _=>v) else lookI ns j:=by
  intro ns
  induction ns with
  | nil=>simp[lookI]
  | cons p ns ih =>
    rw[qc6,Cl,Cl,ih];by_cases e1:p.1=k
    . by_cases e2:j=k
      . simp[e1,e2]
      . have e3:¬k=j:=fun z=>e2 z.symm;simp[e1,e2,e3]
    . by_cases e2:j=k
      . simp[e1,e2]
      . simp[e1,e2]
 have hn:∀(ns:List (Int × Int)),(ns.any fun p=>decide (p.1=k))=(lookI ns k).isSome:=by
  intro ns
  induction ns with
  | nil=>rfl
  | cons p ns ih =>
    rw[qh8,Cl,ih];by_cases e1:p.1=k<;>simp[e1]
 have ha:∀(ns:List (Int × Int)),lookI (ns++[(k,v)]) j=(lookI ns j).or (if k=j then some v else none):=by
  intro ns
  induction ns with
  | nil=>simp[Cl,lookI]
  | cons p ns ih =>
    rw[List.cons_append,Cl,Cl,ih];by_cases e1:p.1=j<;>simp[e1]
 unfold putI;rw[hn];cases q:lookI ms k with
 | some z =>
   simp only[Option.isSome_some,if_true];rw[hs];by_cases e:j=k
   . subst e;simp[q]
   . simp[e]
 | none =>
   simp only[Option.isSome_none,qo1,if_false];rw[ha];by_cases e:j=k
   . subst e;simp[q]
   . have e':¬k=j:=fun z=>e z.symm;simp[e,e']
theorem EY(ms:List (Int × Int))(k j:Int):lookI (Fy ms k) j=if j=k then none else lookI ms j:=by
 unfold Fy
 induction ms with
 | nil=>simp[lookI]
 | cons p ms ih =>
   rw[qp5,Cl];by_cases e1:p.1=k
   . rw[if_neg (by simpa using e1),ih];by_cases e2:j=k
     . simp[e2]
     . have e3:¬p.1=j:=fun z=>e2 (by rw[←z,e1]);simp[e2,e3]
   . rw[if_pos (by simpa using e1),Cl,ih];by_cases e2:j=k
     . subst e2;simp[e1]
     . simp[e2]
structure L8(k:Nat)(A:Around):Prop where
 dp:A.depth+3*k+5<recursionLimit
 un:A.units+16*k+200<cLine
def L8.mono{j k:Nat}{A:Around}(r:L8 k A)(h:j<=k):L8 j A:=⟨by have:=r.dp;omega,by have:=r.un;omega⟩
theorem L8.deeper{k:Nat}{A:Around}(r:L8 (k+1) A)(env:Env):L8 k (A.deeper env) :=
 ⟨by have:=r.dp;show A.depth+1+3*k+5<_;omega,by have:=r.un;show A.units+3+16*k+200<_;omega⟩
theorem L8.depth{k:Nat}{A:Around}(r:L8 k A):A.depth<recursionLimit:=by have:=r.dp;omega
def E5.n{k:Nat}{A:Around}{v:Option Value}(r:E5 k A):L8 k (A.mark v):=⟨r.dp,r.un⟩
structure PJ(P:Program)(w:World)(K:W.Frag)(mg:Str->Option Value)(base:Heap)(k:Nat)(f:Addr)(fd:FuncData)(ps:List Str)(sp:Sp):Prop where
 len:∀vs H Q E,sp vs H Q E->vs.length=ps.length
 run:∀(A:Around) (outer:List Env) (s:Shared) (H:Hp) (args:Args) (us:List Value) (vs:List V) (Q:VK) (E:XK),L8 k A->Xu P w K mg base A outer s H->BindsTo s fd args (ps.zip us)->Vals vs us->sp vs H Q E →
  codeAny (model P w) A (.call (.ref f) args) (CR Fv outer P w H s Q E) s
abbrev ZQ(P:Program)(w:World)(K:W.Frag)(mg:Str->Option Value)(base:Heap)(N:List Str)(qual:Str)(scope:Scope)(f:Addr)(cd:Value)(A:Around)(outer:List Env)(s:Shared)(H:Hp)(E:XK):Cx :=
 { Vy Fv P w K mg base N qual scope f cd A outer s H E with calm:=false,xe:=fun _ _=>False }
section
variable{P:Program}{w:World}{K:W.Frag}{mg:Str->Option Value}{base:Heap}
def fK{N ps:List Str}{qual:Str}{scope:Scope}{f:Addr}{cd:Value}{A:Around}{outer:List Env}{s s1:Shared}{H:Hp}{E:XK}{us:List Value}{vs:List V}
 (S:FnScope N ps scope) (e0:Xu P w K mg base A outer s H) (hl:vs.length=ps.length) (r:Vals vs us)
 (x:InCallC s s.heap.objs.size (bindL (envOfC qual scope s.heap.objs.size f cd).kindOf (ps.zip us) fun _=>none) (cellsFrom (s.heap.objs.size+1) scope.names []) (bindC (envOfC qual scope s.heap.objs.size f cd).kindOf (ps.zip us) fun _=>none) s1) :
 Inv (ZQ P w K mg base N qual scope f cd A outer s H E) [] (J9 N vs) H s1:=by
 have e1:Xu P w K mg base ({ A with handled:=none }) outer s H:=⟨e0.frames,e0.mod,e0.bs,e0.bsz,e0.funs,e0.frf,e0.hok,e0.bare⟩
 have I:=Yn (CX:=Fv) (E:=E) (A:={ A with handled:=none }) (cd:=cd) (f:=f) (qual:=qual) S rfl e1 hl r x;exact⟨⟨I.ok.mod,I.ok.kind,I.ok.glob,I.ok.blt,I.ok.above,I.ok.inj,I.ok.has,I.ok.cab,fun z=>Bool.noConfusion z,Around.frames_deeper e0.frames,I.ok.stk,I.ok.exf,I.ok.bs,I.ok.bsz,I.ok.noex,I.ok.exfs,I.ok.funs,I.ok.frf⟩,I.os,I.bare,I.base,I.loc,I.cell,I.free,I.freeC,I.pin,I.hok,I.len⟩
theorem Ft.okN{x qual:Str}{st:Stmt}{f:Addr}{fd:FuncData}{N ps:List Str}{k:Nat}{sp:Sp}(F:Ft K x qual st f fd)(S:FnScope N ps (Al st))(len:∀vs H Q E,sp vs H Q E->vs.length=ps.length)
 (hbody:∀(C7:Value) (A:Around) (outer:List Env) (s:Shared) (H:Hp) (vs:List V) (Q:VK) (E:XK),L8 k (A.deeper (envOfC qual (Al st) s.heap.objs.size f C7))->sp vs H Q E →
   ∃t,dG (ZQ P w K mg base N qual (Al st) f C7 A outer s H E) (Bc st) t/\t { nx:=fun _ H'=>Q .non H',rt:=Q } (J9 N vs) H):PJ P w K mg base (k+1) f fd ps sp:=by
 obtain⟨oc,od,kV,doc,pm,an,C7,ct,osl,rfl,lk,hcd⟩:=F.ex;refine⟨len,fun A outer s H args us vs Q E hr e0 hb r fL=>?_⟩;have hl:=len _ _ _ _ fL;have KX:K.In s.heap:=e0.mod.kin.keeps fun b o e=>(e0.bs b o e).1;have lim:s.heap.NoLimit:=e0.mod.nolimit.keeps fun b o e=>(e0.bs b o e).1
 have hkind:∀y∈ps.zip us,(Al st).names.lookup y.1=some .local\/((Al st).names.lookup y.1=some .cell/\((cellsFrom (s.heap.objs.size+1) (Al st).names []).lookup y.1).isSome=true):=fun⟨n,v⟩ hy=>by
  rcases S.par n (qq3 hy).1 with q | q
  . exact .inl q
  . exact .inr ⟨q,qp6 _ _ _ (.inl q)⟩
 refine codeAny_call_function hr.depth (KX _ _ lk) rfl S.co S.gen rfl (PySem.W.codeRec_of KX hcd) (hb _ _ _ _ ?_);refine wpAny_newFunctionEnv_cells S.kind hkind fun env he s1 x=>?_;subst he;refine⟨lim.keeps x.toInCall.keep,codeAny_func ?_⟩;obtain⟨t,ht,hq⟩:=hbody C7 A outer s H vs Q E (hr.deeper _) fL;have I:Inv (ZQ P w K mg base N qual (Al st) f C7 A outer s H E) [] (J9 N vs) H s1:=fK S e0 hl r x;refine qe2 (ht [] s1 (J9 N vs) H _ I hq) (fun fl s' hs=>?_) fun e s' hs=>hs.elim
 have fin:∀{σ':St}{H':Hp}{v:V}{u:Value},Inv (ZQ P w K mg base N qual (Al st) f C7 A outer s H E) [] σ' H' s'->RelV v u->Q v H'->CE outer P w H s Q u s' :=
  fun {σ' H' v u} J rv q=>⟨v,H',J.os,J.bare,J.base,J.hok,rv,q⟩
 cases fl with
 | ret u =>
   obtain⟨v,σ',H',J,rv,q⟩:=hs;exact fin J rv q
 | next =>
   obtain⟨σ',H',J,q⟩:=hs;exact fin (v:=V.non) (u:=Value.none) J rfl q
 | brk =>
   obtain⟨_,_,_,q⟩:=hs;exact False.elim q
 | cont =>
   obtain⟨_,_,_,q⟩:=hs;exact False.elim q
end
structure HasN(P:Program)(w:World)(K:W.Frag)(mg:Str->Option Value)(base:Heap)(x:Str)(ps:List Str)(k:Nat)(sp:Sp):Prop where
 ex:∃(f:Addr) (fd:FuncData),mg x=some (.ref f)/\W.keepIn K (.ref f)=true/\Nt K fd ps []/\PJ P w K mg base k f fd ps sp
section
variable{X:Cx}{x:Str}{ps:List Str}{j k:Nat}{sp:Sp}{p pos:Pos}{e:Expr}{es:List Expr}{t:TA}
def Si:bootBuiltins "ValueError"=some (.type "ValueError"):=by decide +kernel
theorem BB(h:HasN X.prog X.w X.K X.mg X.base x ps j sp)(hr:L8 k X.A)(hg:Gl X x)(ha:PA X (e::es) t)(hk:j<=k:=by decide)(hdb:(x==("__debug__":Str))=false:=by decide)
 (he:starEach (e::es) X.env=(false,eval e X.env)::starEach es X.env:=by rfl) (hpl:(backTo pos (starEach es X.env)).any (·.1)=false:=by rfl):PE X (.Call (.Name x p) (e::es) [] pos) (tCall sp [] E0 t):=by
 intro Ac s σ H Q I h1;obtain⟨f,fd,hm,hkp,hb,F⟩:=h.ex;refine qi9 (Hr I hg hm ?_ hdb);refine qm0 (h₀:=X.base) I.ok.mod.kin hkp (Cz (ha pos Ac s σ H _ I h1) fun us s1 ⟨vs,H1,I1,r,q⟩=>⟨I1.kIn,?_⟩) he hpl;have q':sp vs H1 Q E0:=by have:sp (vs++[]) H1 Q E0:=q;rwa [qf8]at this
 have hl:us.length=ps.length:=by rw[←r.length];exact F.len _ _ _ _ q'
 have hb1:=hb s1 us I1.kIn (by rw[qf8];exact hl);rw[qf8]at hb1;refine qq0 (codeAny_mono (F.run X.A X.stack s1 H1 ⟨us,[]⟩ us vs Q _ (hr.mono hk) I1.env0 hb1 r q') fun q s' hq=>?_);cases q with
 | error u=>exact False.elim hq
 | ok fl =>
   cases fl with
   | ret u=>exact I1.after hq
   | next=>exact False.elim hq
   | brk=>exact False.elim hq
   | cont=>exact False.elim hq
end
theorem Os{α β:Type}{F:α->β->Prop}:∀{l:List α}{m:List β},l.length=m.length->(∀(i:Nat) (x:α) (y:β),l[i]?=some x->m[i]?=some y->F x y)->Paired F l m
 | [],[],_,_=>.nil
 | [],_::_,h,_=>by simp at h
 | _::_,[],h,_=>by simp at h
 | x::l,y::m,h,f=>.cons (f 0 x y rfl rfl) (Os (by simpa using h) fun i a b ha hb=>f (i+1) a b (by simpa using ha) (by simpa using hb))
noncomputable def Qt(n:Nat):List Int:=(List.range n).map fun(i:Nat)=>(i:Int)
def Gm(n:Nat):(Qt n).length=n:=by simp[Qt]
def Tn{n i:Nat}(h:i<n):(Qt n)[i]?=some (i:Int):=by
 unfold Qt;rw[qa7,List.getElem?_range h];rfl
def wZ(ta:TA):TE:=fun σ H Q=>ta σ H fun vs H1=>∃n:Nat,vs=[.int (n:Int)]/\n<=1000000/\∀l,H1 l=none->Q (.ref l) (upd H1 l (.lst ((Qt n).map V.int)))
def b7{X:Cx}{a:Expr}{ta:TA}{p q pos pos2:Pos}(hc:X.calm=true)(hg1:Gl X "list")(hm1:X.mg "list"=none)(PL:Gl X "range")(hm2:X.mg "range"=none)(ha:PA X [a] ta)
 (hs:starEach [a] X.env=[(false,eval a X.env)]:=by rfl) (hs2:starEach [.Call (.Name "range" q) [a] [] pos2] X.env=[(false,eval (.Call (.Name "range" q) [a] [] pos2) X.env)]:=by rfl) :
 PE X (.Call (.Name "list" p) [.Call (.Name "range" q) [a] [] pos2] [] pos) (wZ ta):=by
 intro Ac s σ H Q I h;refine Call_ (Mz I hg1 hm1 Pj (qg9 ?_ hs2 rfl));rw[hs2];refine qk3 ?_;refine Call_ (Mz I PL hm2 boot_range (qg9 (Cz (ha pos2 Ac s σ H _ I h) fun us s1 _z=>?_) hs rfl));obtain⟨vs,H1,I1,r1,q1⟩:=_z;obtain⟨n,e,hn,q⟩:=q1;subst e;obtain⟨u,rfl,ru⟩:=L5 r1;obtain⟨t,rfl⟩:=ru;refine call_range_1 (qq4 ?_);have I2:=I1.kept (h':=s1.heap.push { cls:=.type "range",data:=.fields #[.int 0 s1.toks,.int (n:Int) t,.int 1 (s1.toks+1)] }) (t':=s1.toks+1+1) fun b o e=>qa4 _ e;refine call_list_range (n:=n) (I2.ok.hd hc) (IsRange.new ..) (small_one (by decide) (by decide) (by omega) (by omega)) ?_ (by omega) fun h' tk acc' c' kp e it=>?_
 . rw[rangeSize_one];split<;>omega
 . obtain⟨sz,get⟩:=it;have hf:=I2.hok.fresh (qa8 _);have hz:((Qt n).map V.int).length<=sizeLine:=by rw[qa3,Gm,sizeLine_eq];omega
   have rel:Vals ((Qt n).map V.int) acc'.toList:=by
    refine Os ?_ ?_
    . rw[qa3,Gm];simpa using sz.symm
    . intro i x y hx hy
      have hi:i<n:=by
       have:=(qa2.mp hx).1
       rwa [qa3,Gm]at this
      rw[qa7,Tn hi]at hx;cases hx;obtain⟨t',rfl⟩:=get i y (by simpa using hy);exact⟨t',by simp⟩
   refine⟨.ref _,_,I2.laid (t':=tk) kp (qa8 _) (show ObjOk X.prog X.w _ h' _ (.lst ((Qt n).map V.int)) from⟨hz,acc'.toList,c',rel,?_⟩),rfl,q _ hf⟩;simpa using e
end L2
namespace Hb
def aN(f:Nat->Int):Nat->Int
 | 0=>0
 | n+1=>aN f n+f n
end Hb
namespace Hb
open PySem L2
abbrev Ms:=List (Int × Int)
def nd(ms:Ms):Prop:=(ms.map (·.1)).Nodup
def nz(ms:Ms):Prop:=∀p∈ms,p.2≠0
def E4(ms:Ms)(k n:Int):Ms:=if Be ms k+n=0 then Fy ms k else putI ms k (Be ms k+n)
def Cn(ms ns:Ms):Ms:=ns.foldl (fun acc p=>E4 acc p.1 p.2) ms
def Bw(n:Int)(ms:Ms):Ms:=if n=0 then [] else ms.map fun p=>(p.1,n*p.2)
def E3(ms:Ms):Ms:=ms.filter fun p=>decide (p.2≠0)
theorem N5{ms:Ms}{k v:Int}(h:lookI ms k=some v):(k,v)∈ms:=by
 induction ms with
 | nil=>simp[lookI]at h
 | cons p ms ih =>
   rw[Cl]at h;by_cases e:p.1=k
   . rw[if_pos e]at h;have:p=(k,v):=by cases p;simp_all
     rw[this];exact qb2 ..
   . rw[if_neg e]at h;exact qb0 _ (ih h)
theorem JM{ms:Ms}{k:Int}(h:k ∉ ms.map (·.1)):lookI ms k=none:=by
 cases e:lookI ms k with
 | none=>rfl
 | some v=>exact absurd (qg3 (f:=(·.1)) (N5 e)) h
theorem Mx{ms:Ms}(h:nd ms){p:Int × Int}(hp:p∈ms):lookI ms p.1=some p.2:=by
 induction ms with
 | nil=>cases hp
 | cons q ms ih =>
   rw[Cl];unfold nd at h;rw[qc6,qf4]at h;rcases qc0.mp hp with rfl | hp
   . rw[if_pos rfl]
   . have:¬q.1=p.1:=fun z=>h.1 (by rw[z];exact qg3 (f:=(·.1)) hp);rw[if_neg this];exact ih h.2 hp
def Kn{ms:Ms}{k:Int}(h:k ∉ ms.map (·.1)):Be ms k=0:=by unfold Be;rw[JM h];rfl
def Gg(p:Int × Int)(ms:Ms)(k:Int):Be (p::ms) k=if p.1=k then p.2 else Be ms k:=by
 unfold Be;rw[Cl];split<;>rfl
theorem U6{ms:Ms}(h:nz ms)(k:Int):lookI ms k=if Be ms k=0 then none else some (Be ms k):=by
 unfold Be;cases e:lookI ms k with
 | none=>rfl
 | some v =>
   have:=h _ (N5 e);show some v=if v=0 then none else some v
   rw[if_neg this]
theorem FA:∀(l1 l2:List Int),l1.Nodup->(∀x∈l1,x∈l2)->l1.length<=l2.length
 | [],l2,_,_=>qb6 _
 | x::l1,l2,h,hs=>by
   rw[qf4]at h;have hx:=hs x (qb2 ..)
   have:=FA l1 (l2.erase x) h.2 fun y hy=>by
    have ne:y≠x:=fun z=>h.1 (z▸hy);exact(List.mem_erase_of_ne ne).mpr (hs y (qb0 _ hy))
   have e:=List.length_erase_of_mem hx;have:0<l2.length:=List.length_pos_of_mem hx;rw[qd9];omega
def AV{ms ns:Ms}(h1:nd ms)(h2:nd ns)(h:∀k,lookI ms k=lookI ns k):sameC ms ns=true:=by
 have sub:∀{as bs:Ms},nd as->(∀k,lookI as k=lookI bs k)->∀x∈as.map (·.1),x∈bs.map (·.1):=fun {as bs} ha hh x hx=>by
  obtain⟨p,hp,rfl⟩:=qd8.mp hx;have e:=Mx ha hp;rw[hh]at e;exact qg3 (f:=(·.1)) (N5 e)
 have l1:=FA _ _ h1 (sub h1 h);have l2:=FA _ _ h2 (sub h2 fun k=>(h k).symm);rw[qa3,qa3]at l1 l2;unfold sameC;rw[qb4];refine⟨by simp;omega,qc8.mpr fun p hp=>qd3 ?_⟩;rw[←h];exact Mx h1 hp
def X4{ms ns:Ms}(h1:nd ms)(h2:nd ns)(z1:nz ms)(z2:nz ns)(h:∀k,Be ms k=Be ns k):sameC ms ns=true :=
 AV h1 h2 fun k=>by rw[U6 z1,U6 z2,h]
def Lc{ms:Ms}(h:nd ms):sameC ms ms=true:=AV h h fun _=>rfl
def QS{ms:Ms}(h:nd ms)(k:Int):nd (Fy ms k):=by
 unfold nd Fy at *;exact qs1 (List.Sublist.map _ List.filter_sublist) h
def qS{ms:Ms}(h:nz ms)(k:Int):nz (Fy ms k):=fun p hp=>h p (qg1.mp hp).1
def T3{ms:Ms}{k:Int}:(ms.any fun p=>decide (p.1=k))=true↔k∈ms.map (·.1):=by
 rw[qj8,qd8];constructor
 . rintro ⟨p,hp,e⟩;exact⟨p,hp,by simpa using e⟩
 . rintro ⟨p,hp,e⟩;exact⟨p,hp,by simpa using e⟩
def Uz{ms:Ms}(h:nd ms)(k v:Int):nd (putI ms k v):=by
 unfold nd putI at *;split
 . rw[qh9]
   have e:((fun p:Int × Int=>p.1) ∘ fun p:Int × Int=>if p.1=k then(p.1,v) else p)=(·.1):=by
    funext p
    simp only[Function.comp];split<;>rfl
   rw[e];exact h
 . rename_i hn
   rw[T3]at hn;rw[qb1,List.nodup_append];refine⟨h,by simp,fun a ha b hb e=>?_⟩;have:b=k:=by simpa using hb
   exact hn (by rw[←this,←e];exact ha)
def Tu{ms:Ms}{k v:Int}{p:Int × Int}(hp:p∈putI ms k v):p∈ms\/p=(k,v):=by
 unfold putI at hp;split at hp
 . obtain⟨q,hq,e⟩:=qd8.mp hp;by_cases z:q.1=k
   . rw[if_pos z]at e;right;rw[←e,z]
   . rw[if_neg z]at e;left;rw[←e];exact hq
 . rcases qd6.mp hp with h | h
   . exact .inl h
   . exact .inr (by simpa using h)
def Qa(ms:Ms)(k v:Int):(putI ms k v).length<=ms.length+1:=by
 unfold putI;split
 . rw[qa3];omega
 . rw[qd1];simp
def NG(ms:Ms)(k:Int):(Fy ms k).length<=ms.length:=qi6 ..
def UQ{ms:Ms}(h:nz ms){k v:Int}(hv:v≠0):nz (putI ms k v):=fun p hp=>by
 rcases Tu hp with q | q
 . exact h p q
 . rw[q];exact hv
def j5{ms:Ms}(h:nd ms)(k n:Int):nd (E4 ms k n):=by unfold E4;split;exact QS h k;exact Uz h k _
def eU{ms:Ms}(h:nz ms)(k n:Int):nz (E4 ms k n):=by
 unfold E4;split
 . exact qS h k
 . rename_i q;exact UQ h q
def Tv(ms:Ms)(k n:Int):(E4 ms k n).length<=ms.length+1:=by
 unfold E4;split
 . have:=NG ms k;omega
 . exact Qa ..
def GW(ms:Ms)(k n j:Int):Be (E4 ms k n) j=if j=k then Be ms j+n else Be ms j:=by
 unfold E4;split
 . rename_i q
   unfold Be at *;rw[EY];by_cases e:j=k
   . subst e;simp;omega
   . simp[e]
 . unfold Be at *;rw[Yi];by_cases e:j=k
   . subst e;simp
   . simp[e]
theorem b4:∀(ns ms:Ms),nd ms->nz ms->nd ns->nd (Cn ms ns)/\nz (Cn ms ns)/\(Cn ms ns).length<=ms.length+ns.length/\∀j,Be (Cn ms ns) j=Be ms j+Be ns j
 | [],ms,h1,h2,_=>⟨h1,h2,by simp[Cn],fun j=>by simp[Cn,Be,lookI]⟩
 | p::ns,ms,h1,h2,h3=>by
   unfold nd at h3;rw[qc6,qf4]at h3;obtain⟨r1,r2,r3,r4⟩:=b4 ns (E4 ms p.1 p.2) (j5 h1 _ _) (eU h2 _ _) h3.2;refine⟨r1,r2,?_,fun j=>?_⟩
   . have:=Tv ms p.1 p.2;show(Cn (E4 ms p.1 p.2) ns).length<=_;rw[qd9];omega
   . show Be (Cn (E4 ms p.1 p.2) ns) j=_;rw[r4,GW,Gg];by_cases e:j=p.1
     . have:=Kn h3.1;subst e;simp[this]
     . have e':¬p.1=j:=fun z=>e z.symm;simp[e,e']
def U0{ms:Ms}(h:nd ms):nd (E3 ms):=by
 unfold nd E3 at *;exact qs1 (List.Sublist.map _ List.filter_sublist) h
def GP(ms:Ms):nz (E3 ms):=fun p hp=>by have:=(qg1.mp hp).2;simpa using this
theorem NY{ms:Ms}(h:nd ms)(k:Int):Be (E3 ms) k=Be ms k:=by
 induction ms with
 | nil=>rfl
 | cons p ms ih =>
   unfold nd at h;rw[qc6,qf4]at h;unfold E3;rw[qp5,Gg];by_cases e:p.2=0
   . rw[if_neg (by simpa using e)];show Be (E3 ms) k=_;rw[ih h.2];by_cases q:p.1=k
     . rw[if_pos q,e,←q,Kn h.1]
     . rw[if_neg q]
   . rw[if_pos (by simpa using e),Gg];show(if p.1=k then p.2 else Be (E3 ms) k)=_;rw[ih h.2]
def EU{ms:Ms}(h:nd ms)(n:Int):nd (ms.map fun p=>(p.1,n*p.2)):=by
 unfold nd at *;rw[qh9];exact h
theorem Qb:∀(ns ms:Ms),(Cn ms ns).length<=ms.length+ns.length
 | [],ms=>by simp[Cn]
 | p::ns,ms=>by
   have h1:=Qb ns (E4 ms p.1 p.2);have h2:=Tv ms p.1 p.2;show(Cn (E4 ms p.1 p.2) ns).length<=_;rw[qd9];omega
def IU{ms ns:Ms}{i:Nat}{q:Int × Int}(h:ns[i]?=some q):Cn ms (ns.take (i+1))=E4 (Cn ms (ns.take i)) q.1 q.2:=by
 unfold Cn;rw[qf0,h,List.foldl_append];rfl
def Pr{ms:Ms}(h:nd ms){i:Nat}{q:Int × Int}(hq:ms[i]?=some q):q.1 ∉ (ms.take i).map (·.1):=by
 intro hm;obtain⟨p,hp,e⟩:=qd8.mp hm;obtain⟨j,hj,ej⟩:=List.mem_take_iff_getElem.mp hp;have hij:j<i:=by omega
 have hi:i<ms.length:=(qa2.mp hq).1;unfold nd List.Nodup at h;rw[qm6,List.pairwise_iff_getElem]at h;have:=h j i (by omega) hi hij;rw[qa0 hi]at hq;have hq':=qd4 hq;exact this (by rw[ej,hq',e])
def KI{ms:Ms}{i:Nat}{q:Int × Int}(hq:ms[i]?=some q):E3 (ms.take (i+1))=if q.2=0 then E3 (ms.take i) else E3 (ms.take i)++[q]:=by
 unfold E3;rw[qf0,hq,qr9];by_cases e:q.2=0<;>simp[e]
def rN{ms:Ms}{k:Int}(h:k ∉ ms.map (·.1)):k ∉ (E3 ms).map (·.1):=fun hm=>by
 obtain⟨p,hp,e⟩:=qd8.mp hm;exact h (qd8.mpr ⟨p,(qg1.mp hp).1,e⟩)
def N6(ms:Ms):(E3 ms).length<=ms.length:=qi6 ..
end Hb
namespace L2
open PySem PySem.Spec PyProof.Rows
section
variable{X:Cx}{sc:Scope}{N':List Str}{cap:List (Option Nat)}{xc:Str}{Ac:LAObj}{σ:St}{H:Hp}{s:Shared}{C c:Addr}{fp:List Addr}
end
section
variable{X:Cx}{sc:Scope}{N':List Str}{cap:List (Option Nat)}{xc:Str}{tg elt iter:Expr}{ifs:List Expr}{pos:Pos}{g:TG}{tc:TT}{te:TE}
end
end L2
namespace Hb
open PySem L2
section
variable{H H1:Hp}{a:Addr}{ms:Ms}{k v:Int}
def Ty(rd:Rd H a (.dK (cK ms))):DGet H a (.int k) ((lookI ms k).map V.int):=.inl ⟨cK ms,.inl k,rd,rfl,(gA ms k).symm⟩
def x6(rd:Rd H a (.dK (cK ms)))(h:lookI ms k=some v):DGet H a (.int k) (some (.int v)):=.inl ⟨cK ms,.inl k,rd,rfl,by rw[gA,h];rfl⟩
def N8(h:H a=some (.dK (cK ms)))(hl:ms.length<=1000000):WJ H a (.int k) (.int v) (upd H a (.dK (cK (putI ms k v)))):=by
 rw[←oZ];exact .inl ⟨cK ms,.inl k,h,rfl,by unfold cK;rw[qa3];exact Cb hl,rfl⟩
theorem Ly{i:Nat}{kk:Key}{x:V}(h:(cK ms)[i]?=some (kk,x)):∃p:Int × Int,ms[i]?=some p/\kk=.inl p.1/\x=.int p.2:=by
 unfold cK at h;rw[qa7]at h;cases e:ms[i]? with
 | none=>rw[e]at h;cases h
 | some p =>
   rw[e]at h;have:=qd4 h;simp only[Prod.mk.injEq]at this;exact⟨p,rfl,this.1.symm,this.2.symm⟩
def Hg:(cK ms).length=ms.length:=by unfold cK;rw[qa3]
def tN{o:HO}(h:H a=some o):upd H a o=H:=by
 funext b
 by_cases e:b=a
 . rw[e,Ab,h]
 . rw[Ai e]
def CA{x:HO}{D:Addr}(h:(upd H a x) D=none):H D=none/\D≠a:=by
 have n:D≠a:=fun z=>by rw[z,Ab]at h;cases h
 rw[Ai n]at h;exact⟨h,n⟩
end
def put_new{ms:Ms}{k v:Int}(h:k ∉ ms.map (·.1)):putI ms k v=ms++[(k,v)]:=by
 unfold putI;rw[if_neg (fun z=>h (T3.mp z))]
def Xh(H:Hp)(ms:Ms)(Q:V->Hp->Prop):Prop:=∀(D:Addr) (H':Hp),H D=none->Ah H H'->H' D=some (.dK (cK ms))->Q (.ref D) H'
section
variable(K:W.Frag)
def Hu(_K:W.Frag):Sp:=fun vs H Q _=>∃(a:Addr) (ms:Ms) (k n:Int),vs=[.ref a,.int k,.int n]/\H a=some (.dK (cK ms))/\ms.length<=1000000/\Q .non (upd H a (.dK (cK (E4 ms k n))))
def Zs(_K:W.Frag):Sp:=fun vs H Q _=>∃(a b:Addr) (ms ns:Ms),vs=[.ref a,.ref b]/\Rd H a (.dK (cK ms))/\H b=some (.dK (cK ns))/\ms.length<=1000/\ns.length<=1000/\Xh H (Cn ms ns) Q
def Uc(_K:W.Frag):Sp:=fun vs H Q _=>∃(n:Int) (a:Addr) (ms:Ms),vs=[.int n,.ref a]/\H a=some (.dK (cK ms))/\ms.length<=1000/\(∀p∈ms,IntMulOk n p.2)/\Xh H (Bw n ms) Q
end
def Cy(ks:List Int)(j:Int):Int:=ks.getD j.toNat 0
noncomputable def J8(ks:List Int)(f:Int):Int:=(ks.findIdx (·==f):Nat)
def Rf{ks:List Int}{f:Int}(h:f∈ks):Cy ks (J8 ks f)=f/\0<=J8 ks f/\J8 ks f<(ks.length:Int):=by
 unfold Cy J8;have hl:ks.findIdx (·==f)<ks.length:=qs6 ⟨f,h,by simp⟩;have h1:=List.findIdx_getElem (xs:=ks) (p:=(·==f)) (w:=hl);refine⟨?_,by omega,by omega⟩;rw[qd0,qa5,qa0 hl];simpa using h1
def HK{ks:List Int}{j:Int}(h0:0<=j)(h1:j<(ks.length:Int)):Cy ks j∈ks:=Bz (by omega)
def T2{ks:List Int}(h:ks.Nodup){i j:Int}(i0:0<=i)(i1:i<(ks.length:Int))(j0:0<=j)(j1:j<(ks.length:Int))(e:Cy ks i=Cy ks j):i=j:=by
 unfold Cy at e;rw[qa5,qa0 (show i.toNat<ks.length by omega),qa5,qa0 (show j.toNat<ks.length by omega)]at e;have:i.toNat=j.toNat:=(List.getElem_inj h).mp (by simpa using e);omega
def O3{ks:List Int}(h:ks.Nodup){i:Int}(h0:0<=i)(h1:i<(ks.length:Int)):J8 ks (Cy ks i)=i:=by
 obtain⟨e,a,b⟩:=Rf (HK h0 h1);exact T2 h a b h0 h1 e
def sub(xs:LLInt)(ks:List Int):LLInt:=ks.map fun k=>(xs.getD k.toNat []).map (J8 ks)
def Kx(xs:LLInt)(ks:List Int):(sub xs ks).length=ks.length:=qa3 ..
def dQ{xs:LLInt}{ks:List Int}{m:Nat}(h:m<ks.length):(sub xs ks).getD m []=(xs.getD (ks.getD m 0).toNat []).map (J8 ks):=by
 unfold sub;rw[qa5,qa7,qa0 h,qa5 (l:=ks),qa0 h];rfl
def Xv(xs:LLInt)(ks:List Int):Prop:=∀k∈ks,∀f∈xs.getD k.toNat [],f∈ks
def Dv(xs:LLInt)(ks:List Int)(f:Int):List Int:=ks.flatMap fun k=>List.replicate (Fr (xs.getD k.toNat []) f) k
def rP{ks x:List Int}(hn:ks.Nodup)(hx:∀f∈x,f∈ks){i:Int}(i0:0<=i)(i1:i<(ks.length:Int)):Fr (x.map (J8 ks)) i=Fr x (Cy ks i):=by
 unfold Fr;rw[List.countP_map];apply List.countP_congr;intro f hf;obtain⟨e,a,b⟩:=Rf (hx f hf);show decide (J8 ks f=i)=true↔decide (f=Cy ks i)=true;rw[decide_eq_true_iff,decide_eq_true_iff];constructor
 . intro z;rw[←z];exact e.symm
 . intro z;rw[z];exact O3 hn i0 i1
theorem BX{xs:LLInt}{ks:List Int}(hn:ks.Nodup)(hc:Xv xs ks){i:Int}(i0:0<=i)(i1:i<(ks.length:Int)):(Gw (sub xs ks) i).map (Cy ks)=Dv xs ks (Cy ks i):=by
 have go:∀m,m<=ks.length->(Ov (sub xs ks) i m).map (Cy ks)=(ks.take m).flatMap fun k=>List.replicate (Fr (xs.getD k.toNat []) (Cy ks i)) k:=by
  intro m
  induction m with
  | zero=>intro _;rfl
  | succ m ih =>
    intro hm;have hm':m<ks.length:=by omega
    have hk:ks.getD m 0=ks[m]:=by rw[qa5,qa0 hm'];rfl
    show(Ov (sub xs ks) i m++List.replicate (Fr ((sub xs ks).getD m []) i) (m:Int)).map (Cy ks)=_;rw[qb1,ih (by omega),qf1,qa0 hm',List.flatMap_append,dQ hm',List.map_replicate,hk,rP hn (hc _ (qc7 hm')) i0 i1]
    congr 1
    show _=List.flatMap _ [ks[m]];rw[List.flatMap_singleton];show List.replicate _ (ks.getD ((m:Int)).toNat 0)=_;rw[qd0,hk]
 have:=go ks.length (qa8 _);rw[qb9]at this;unfold Gw;rw[Kx];exact this
theorem bY{ys:LLInt}{f j:Int}(h:j∈Gw ys f):0<=j/\j<(ys.length:Int):=by
 have go:∀m,j∈Ov ys f m->0<=j/\j<(m:Int):=by
  intro m
  induction m with
  | zero=>intro z;cases z
  | succ m ih =>
    intro z;rcases qd6.mp (show j∈Ov ys f m++List.replicate _ (m:Int) from z) with z | z
    . have:=ih z;omega
    . have:=List.eq_of_mem_replicate z;omega
 exact go _ h
def Ro{xs:LLInt}{ks:List Int}{p f:Int}(hp:p∈ks)(hf:f∈xs.getD p.toNat []):p∈Dv xs ks f:=by
 refine List.mem_flatMap.mpr ⟨p,hp,?_⟩;rw[List.mem_replicate];refine⟨?_,rfl⟩;have:0<Fr (xs.getD p.toNat []) f:=List.countP_pos_iff.mpr ⟨f,hf,by simp⟩;omega
def jV{xs:LLInt}{ks:List Int}{p f:Int}(h:p∈Dv xs ks f):p∈ks:=by
 obtain⟨k,hk,z⟩:=List.mem_flatMap.mp h;rw[List.eq_of_mem_replicate z];exact hk
def Jo(xs:LLInt)(ks:List Int)(k:Int):Bool:=decide ((Dv xs ks k).length=1)&&decide ((Dv xs ks ((Dv xs ks k).getD 0 0)).length=0)
def Mp(xs:LLInt)(ks:List Int)(k:Int):List Int:=[k,(Dv xs ks k).getD 0 0]
def Gx(xs:LLInt)(ks:List Int):LLInt:=(ks.filter (Jo xs ks)).map (Mp xs ks)
theorem cY{xs:LLInt}{ks:List Int}(hn:ks.Nodup)(hc:Xv xs ks):(Fs (sub xs ks)).map (fun p=>p.map (Cy ks))=Gx xs ks:=by
 have go:∀m,m<=ks.length->(Ja (sub xs ks) m).map (fun p=>p.map (Cy ks))=((ks.take m).filter (Jo xs ks)).map (Mp xs ks):=by
  intro m
  induction m with
  | zero=>intro _;rfl
  | succ m ih =>
    intro hm;have hm':m<ks.length:=by omega
    have hk:Cy ks (m:Int)=ks[m]:=by unfold Cy;rw[qd0,qa5,qa0 hm'];rfl
    have h1:=BX hn hc (i:=(m:Int)) (by omega) (by omega);rw[hk]at h1;have l1:(Dv xs ks ks[m]).length=(Gw (sub xs ks) (m:Int)).length:=by rw[←h1,qa3]
    rw[qf1,qa0 hm',qr9,qb1,←ih (by omega)];show List.map _ (if (Gw (sub xs ks) (m:Int)).length=1/\(Gw (sub xs ks) ((Gw (sub xs ks) (m:Int)).getD 0 0)).length=0 then Ja (sub xs ks) m++[[(m:Int),(Gw (sub xs ks) (m:Int)).getD 0 0]] else Ja (sub xs ks) m)=_++List.map _ (List.filter _ [ks[m]]);have hr:∀j∈Gw (sub xs ks) (m:Int),0<=j/\j<(ks.length:Int):=fun j hj=>by have:=bY hj;rwa [Kx]at this
    generalize Gw (sub xs ks) (m:Int)=hs at h1 l1 hr;by_cases e1:hs.length=1
    . obtain⟨h0,rfl⟩:∃h0,hs=[h0]:=by
       match hs,e1 with
       | [h0],_=>exact⟨h0,rfl⟩
      obtain⟨r0,r1⟩:=hr h0 (by simp);have h2:=BX hn hc (i:=h0) r0 r1;have e3:(Dv xs ks ks[m]).getD 0 0=Cy ks h0:=by rw[←h1];rfl
      have l2:(Dv xs ks (Cy ks h0)).length=(Gw (sub xs ks) h0).length:=by rw[←h2,qa3]
      by_cases e2:(Gw (sub xs ks) h0).length=0
      . have g:Jo xs ks ks[m]=true:=by
         unfold Jo;rw[e3,l2,e2,l1];rfl
        rw[if_pos ⟨rfl,e2⟩,qb1,qp3 g,qn5]
        congr 1
        show [[Cy ks (m:Int),Cy ks h0]]=[Mp xs ks ks[m]]
        unfold Mp;rw[hk,e3]
      . have g:¬Jo xs ks ks[m]=true:=by
         unfold Jo;rw[e3,l2,qe3 e2];simp
        rw[if_neg (fun z=>e2 z.2),qm4 g,qn5,qj1,qf8]
    . have g:¬Jo xs ks ks[m]=true:=by
       unfold Jo;rw[l1,qe3 e1];simp
      rw[if_neg (fun z=>e1 z.1),qm4 g,qn5,qj1,qf8]
 have:=go ks.length (qa8 _);rw[qb9]at this;unfold Fs;rw[Kx];exact this
def At(n:Nat)(fl:Int->Bool):List Int:=(Qt n).filter fl
def LJ(n:Nat):(Qt n).Pairwise (·<·):=by
 unfold Qt;rw[qm6];exact List.pairwise_lt_range.imp (fun h=>by omega)
def Qv(n:Nat):(Qt n).Nodup:=(LJ n).imp (fun h=>by omega)
def Iv(n:Nat)(fl:Int->Bool):(At n fl).Nodup:=(Qv n).filter _
def j8{n:Nat}{p:Int}:p∈Qt n↔0<=p/\p<(n:Int):=by
 unfold Qt;rw[qd8];constructor
 . rintro ⟨i,hi,rfl⟩;have:=qe6.mp hi;omega
 . rintro ⟨a,b⟩;exact⟨p.toNat,qe6.mpr (by omega),by omega⟩
def Mu{n:Nat}{fl:Int->Bool}{p:Int}:p∈At n fl↔(0<=p/\p<(n:Int))/\fl p=true:=by
 unfold At;rw[qg1,j8]
def BR(n:Nat)(fl:Int->Bool):(At n fl).length<=n:=qe5 (qi6 ..) (by rw[Gm];exact qa8 _)
def without(fl:Int->Bool)(p:List Int):Int->Bool:=fun q=>fl q&&decide (q≠p.getD 0 0)&&decide (q≠p.getD 1 0)
def Hs(n:Nat)(fl:Int->Bool)(p:List Int):At n (without fl p)=(At n fl).filter fun q=>decide (q≠p.getD 0 0)&&decide (q≠p.getD 1 0):=by
 unfold At;rw[List.filter_filter];apply List.filter_congr;intro q _;unfold without;cases fl q<;>simp
theorem Sr{xs:LLInt}{n:Nat}{fl:Int->Bool}(hc:Xv xs (At n fl)){k:Int}(hg:Jo xs (At n fl) k=true):Xv xs (At n (without fl (Mp xs (At n fl) k))):=by
 unfold Jo at hg;rw[qb4]at hg;have g1:=qc9 hg.1;have g2:=qc9 hg.2;intro p hp f hf;rw[Hs,qg1]at hp;obtain⟨hp1,hp2⟩:=hp;rw[qb4]at hp2;have n1:=qc9 hp2.1;have n2:=qc9 hp2.2;have hfk:=hc p hp1 f hf;rw[Hs,qg1];refine⟨hfk,?_⟩;rw[qb4];constructor
 . refine qd3 fun z=>?_;have hm:=Ro hp1 hf;rw[z]at hm
   have e:Dv xs (At n fl) ((Mp xs (At n fl) k).getD 0 0)=[(Mp xs (At n fl) k).getD 1 0]:=by
    show Dv xs (At n fl) k=[(Dv xs (At n fl) k).getD 0 0]
    match hh:Dv xs (At n fl) k,g1 with
    | [a],_=>rfl
   rw[e,qb7]at hm;exact n2 hm
 . refine qd3 fun z=>?_;have hm:=Ro hp1 hf;rw[z]at hm;have e:Dv xs (At n fl) ((Mp xs (At n fl) k).getD 1 0)=[]:=qp1.mp g2;rw[e]at hm;cases hm
def C6(m:Nat)(p:List Int):List Int:=(Qt m).filter fun q=>decide (q≠p.getD 0 0)&&decide (q≠p.getD 1 0)
def ND(ks:List Int):(Qt ks.length).map (Cy ks)=ks:=by
 apply List.ext_getElem?;intro i;rw[qa7];by_cases h:i<ks.length
 . rw[Tn h,qa0 h];show some (ks.getD ((i:Int)).toNat 0)=_;rw[qd0,qa5,qa0 h];rfl
 . rw[qg6 (by rw[Gm];omega),qg6 (by omega)];rfl
def IK{ks:List Int}(hn:ks.Nodup){i j:Int}(i0:0<=i)(i1:i<(ks.length:Int))(j0:0<=j)(j1:j<(ks.length:Int)):(C6 ks.length [i,j]).map (Cy ks)=ks.filter fun q=>decide (q≠Cy ks i)&&decide (q≠Cy ks j):=by
 have e0:(ks.filter fun q=>decide (q≠Cy ks i)&&decide (q≠Cy ks j))=((Qt ks.length).map (Cy ks)).filter fun q=>decide (q≠Cy ks i)&&decide (q≠Cy ks j):=by rw[ND]
 rw[e0,List.filter_map];unfold C6
 congr 1
 apply List.filter_congr;intro q hq;obtain⟨q0,q1⟩:=j8.mp hq;show(decide (q≠i)&&decide (q≠j))=(decide (Cy ks q≠Cy ks i)&&decide (Cy ks q≠Cy ks j))
 congr 1
 . exact decide_eq_decide.mpr ⟨fun a b=>a (T2 hn q0 q1 i0 i1 b),fun a b=>a (by rw[b])⟩
 . exact decide_eq_decide.mpr ⟨fun a b=>a (T2 hn q0 q1 j0 j1 b),fun a b=>a (by rw[b])⟩
def QA{ks ls:List Int}(hn:ks.Nodup)(hl:∀l∈ls,0<=l/\l<(ks.length:Int))(hln:ls.Nodup){l:Int}(h:l∈ls):J8 (ls.map (Cy ks)) (Cy ks l)=J8 ls l:=by
 have hm:(ls.map (Cy ks)).Nodup:=by
  refine qm6.mpr (hln.imp_of_mem fun ha hb hab e=>hab ?_);exact T2 hn (hl _ ha).1 (hl _ ha).2 (hl _ hb).1 (hl _ hb).2 e
 obtain⟨e,a,b⟩:=Rf h;have hb':J8 ls l<((ls.map (Cy ks)).length:Int):=by rw[qa3];exact b
 have:Cy (ls.map (Cy ks)) (J8 ls l)=Cy ks l:=by
  conv=>rhs;rw[←e]
  unfold Cy;rw[qa5,qa7,qa0 (show(J8 ls l).toNat<ls.length by omega),qa5 (l:=ls),qa0 (show(J8 ls l).toNat<ls.length by omega)];rfl
 rw[←this];exact O3 hm a hb'
def pU{xs:LLInt}{ks ls:List Int}(hn:ks.Nodup)(hl:∀l∈ls,0<=l/\l<(ks.length:Int))(hln:ls.Nodup)(hc:Xv xs (ls.map (Cy ks))):sub (sub xs ks) ls=sub xs (ls.map (Cy ks)):=by
 show ls.map _=(ls.map (Cy ks)).map _;rw[qh9];apply qg4;intro l SN;obtain⟨l0,l1⟩:=hl l SN;show((sub xs ks).getD l.toNat []).map (J8 ls)=(xs.getD (Cy ks l).toNat []).map (J8 (ls.map (Cy ks)));rw[dQ (show l.toNat<ks.length by omega),qh9];apply qg4;intro f hf;obtain⟨l',hl',rfl⟩:=qd8.mp (hc (Cy ks l) (qd8.mpr ⟨l,SN,rfl⟩) f hf);show J8 ls (J8 ks (Cy ks l'))=_;rw[O3 hn (hl l' hl').1 (hl l' hl').2,QA hn hl hln hl']
def RP{xs:LLInt}{ks ls:List Int}(hn:ks.Nodup)(hl:∀l∈ls,0<=l/\l<(ks.length:Int))(hc:Xv xs (ls.map (Cy ks))):Xv (sub xs ks) ls:=by
 intro l SN f hf;obtain⟨l0,l1⟩:=hl l SN;rw[dQ (show l.toNat<ks.length by omega)]at hf;obtain⟨g,hg,rfl⟩:=qd8.mp hf;obtain⟨l',hl',rfl⟩:=qd8.mp (hc (Cy ks l) (qd8.mpr ⟨l,SN,rfl⟩) g hg);rw[O3 hn (hl l' hl').1 (hl l' hl').2];exact hl'
def P2{m:Nat}{p:List Int}:∀l∈C6 m p,0<=l/\l<(m:Int):=fun l hl=>j8.mp (qg1.mp hl).1
def Ui(m:Nat)(p:List Int):(C6 m p).Nodup:=(Qv m).filter _
def PU{xs:LLInt}(h:∀x∈xs,∀f∈x,0<=f/\f<(xs.length:Int)):sub xs (Qt xs.length)=xs:=by
 unfold sub;apply List.ext_getElem?;intro i;rw[qa7];by_cases hi:i<xs.length
 . rw[Tn hi,qa0 hi];show some ((xs.getD ((i:Int)).toNat []).map (J8 (Qt xs.length)))=_;have e:xs.getD ((i:Int)).toNat []=xs[i]:=by rw[qd0,qa5,qa0 hi];rfl
   rw[e]
   congr 1
   conv=>rhs;rw[←List.map_id xs[i]]
   apply qg4;intro f hf;obtain⟨f0,f1⟩:=h _ (qc7 hi) f hf
   have hat:Cy (Qt xs.length) f=f:=by
    unfold Cy;rw[qa5,Tn (show f.toNat<xs.length by omega)];show((f.toNat:Nat):Int)=f;omega
   have:=O3 (Qv xs.length) f0 (by rw[Gm];exact f1)
   rwa [hat]at this
 . rw[qg6 (by rw[Gm];omega),qg6 (by omega)];rfl
def D6(xs:LLInt)(n:Nat):Nat->(Int->Bool)->LLInt->(Int->Bool) × LLInt
 | 0,fl,acc=>(fl,acc)
 | m+1,fl,acc=>match Gx xs (At n fl) with
   | []=>(fl,acc)
   | p::_=>D6 xs n m (without fl p) (acc++[p])
theorem Qi{xs:LLInt}{n:Nat}{fl:Int->Bool}{acc:LLInt}(h:Gx xs (At n fl)=[]):∀m,D6 xs n m fl acc=(fl,acc)
 | 0=>rfl
 | m+1=>by unfold D6;rw[h]
def Ob{xs:LLInt}{n m:Nat}{fl:Int->Bool}{acc:LLInt}{p:List Int}{r:LLInt}(h:Gx xs (At n fl)=p::r):D6 xs n (m+1) fl acc=D6 xs n m (without fl p) (acc++[p]):=by
 show(match Gx xs (At n fl) with | []=>(fl,acc) | p::_=>D6 xs n m (without fl p) (acc++[p]))=_;rw[h]
def Pk{xs:LLInt}{ks:List Int}{p:List Int}(h:p∈Gx xs ks):∃k,k∈ks/\Jo xs ks k=true/\p=Mp xs ks k/\p.getD 1 0∈ks:=by
 obtain⟨k,hk,rfl⟩:=qd8.mp h;obtain⟨h1,h2⟩:=qg1.mp hk;refine⟨k,h1,h2,rfl,?_⟩;unfold Jo at h2;rw[qb4]at h2;have g1:=qc9 h2.1;have:(Dv xs ks k).getD 0 0∈Dv xs ks k:=Bz (by omega);exact jV this
end Hb
namespace L2
open PySem PySem.Spec PyProof.Rows
section
variable{X:Cx}{K:W.Frag}{j k:Nat}{C:Addr}{ps:List Str}{sp:Sp}{x m f:Str}{p pos apos pos':Pos}{e o value:Expr}{es:List Expr}{ta tv:TE}{t:TA}
end
end L2
namespace Hb
open PySem L2
def HC{xs:LLInt}(h:∀x∈xs,∀f∈x,0<=f/\f<(xs.length:Int)):Xv xs (At xs.length fun _=>true):=fun k hk f hf=>by
 obtain⟨⟨k0,k1⟩,_⟩:=Mu.mp hk;exact Mu.mpr ⟨h _ (Bz (show k.toNat<xs.length by omega)) f hf,rfl⟩
def nJ(n:Nat):At n (fun _=>true)=Qt n:=by unfold At;exact List.filter_eq_self.mpr fun _ _=>rfl
def Zr{xs:LLInt}{ks:List Int}(h4:∀x∈xs,x.length<=4):∀x∈sub xs ks,x.length<=4:=fun x hx=>by
 obtain⟨k,hk,rfl⟩:=qd8.mp hx;rw[qa3];by_cases h:k.toNat<xs.length
 . exact h4 _ (Bz h)
 . rw[qa5,qg6 (by omega)];exact qb6 _
def Oy(ks:List Int):Ms:=(List.range ks.length).map fun i=>(ks.getD i 0,(i:Int))
def HZ(ks:List Int):(Oy ks).map (·.1)=ks:=by
 unfold Oy;rw[qh9];have:=ND ks;unfold Qt at this;rw[qh9]at this
 conv=>rhs;rw[←this]
 apply qg4;intro i _;show ks.getD i 0=ks.getD ((i:Int)).toNat 0;rw[qd0]
def GG{ks:List Int}(h:ks.Nodup):nd (Oy ks):=by
 unfold nd;rw[HZ];exact h
def lG(ks:List Int):(Oy ks).length=ks.length:=by simp[Oy]
def AJ{ks:List Int}{i:Nat}(h:i<ks.length):(Oy ks)[i]?=some (ks.getD i 0,(i:Int)):=by
 unfold Oy;rw[qa7,List.getElem?_range h];rfl
def Xw{ks:List Int}(h:ks.Nodup){f:Int}(hf:f∈ks):lookI (Oy ks) f=some (J8 ks f):=by
 obtain⟨e,a,b⟩:=Rf hf
 have hm:(f,J8 ks f)∈Oy ks:=by
  have hg:=AJ (ks:=ks) (i:=(J8 ks f).toNat) (by omega);have e2:ks.getD (J8 ks f).toNat 0=f:=e;rw[e2,show(((J8 ks f).toNat:Nat):Int)=J8 ks f by omega]at hg;exact qb5 hg
 exact Mx (GG h) hm
def QY{ys:LLInt}(p:List Int):((Fs ys).map tI).any (fun e=>eqD e (tI p))=decide (p∈Fs ys):=Np p _
theorem KU{ys:LLInt}{p:List Int}(h:p∈Fs ys):∃i j,p=[i,j]/\0<=i/\i<(ys.length:Int)/\0<=j/\j<(ys.length:Int):=by
 have go:∀m,m<=ys.length->p∈Ja ys m->∃i j,p=[i,j]/\0<=i/\i<(ys.length:Int)/\0<=j/\j<(ys.length:Int):=by
  intro m
  induction m with
  | zero=>intro _ z;cases z
  | succ m ih =>
    intro hm z;unfold Ja at z;split at z
    . rename_i hc
      rcases qd6.mp z with z | z
      . exact ih (by omega) z
      . rw[qb7]at z;have hj:=bY (Bz (d:=0) (show 0<(Gw ys (m:Int)).length by omega));exact⟨_,_,z,by omega,by omega,hj.1,hj.2⟩
    . exact ih (by omega) z
 exact go _ (qa8 _) h
def lJ(n:Nat):Qt (n+1)=Qt n++[(n:Int)]:=by
 unfold Qt;rw[qm1,qb1];rfl
def KO{xs:LLInt}{n:Nat}{fl:Int->Bool}(hc:Xv xs (At n fl)){p0:List Int}{r:LLInt}(hb:Fs (sub xs (At n fl))=p0::r) :
 ∃i j,p0=[i,j]/\0<=i/\i<((At n fl).length:Int)/\0<=j/\j<((At n fl).length:Int)/\(∃r',Gx xs (At n fl)=[Cy (At n fl) i,Cy (At n fl) j]::r') ∧
 (C6 (At n fl).length [i,j]).map (Cy (At n fl))=At n (without fl [Cy (At n fl) i,Cy (At n fl) j])/\Xv xs (At n (without fl [Cy (At n fl) i,Cy (At n fl) j])) ∧
 Xv (sub xs (At n fl)) (C6 (At n fl).length [i,j])/\sub (sub xs (At n fl)) (C6 (At n fl).length [i,j])=sub xs (At n (without fl [Cy (At n fl) i,Cy (At n fl) j])) ∧
 (At n (without fl [Cy (At n fl) i,Cy (At n fl) j])).length<(At n fl).length:=by
 have hn:=Iv n fl;obtain⟨i,j,e,i0,i1,j0,j1⟩:=KU (ys:=sub xs (At n fl)) (p:=p0) (by rw[hb];exact qb2 ..);rw[Kx]at i1 j1;subst e;have hs:=cY hn hc;rw[hb]at hs;have hr:Gx xs (At n fl)=[Cy (At n fl) i,Cy (At n fl) j]::r.map (fun p=>p.map (Cy (At n fl))):=hs.symm;obtain⟨k,hk,hg,ep,_⟩:=Pk (xs:=xs) (ks:=At n fl) (p:=[Cy (At n fl) i,Cy (At n fl) j]) (by rw[hr];exact qb2 ..);have e1:=IK hn i0 i1 j0 j1;have e2:=Hs n fl [Cy (At n fl) i,Cy (At n fl) j];have e3:(C6 (At n fl).length [i,j]).map (Cy (At n fl))=At n (without fl [Cy (At n fl) i,Cy (At n fl) j]):=by rw[e1,e2];rfl
 have hc2:=Sr hc hg;rw[←ep]at hc2;refine⟨i,j,rfl,i0,i1,j0,j1,⟨_,hr⟩,e3,hc2,RP hn P2 (by rw[e3];exact hc2),?_,?_⟩
 . rw[pU hn P2 (Ui _ _) (by rw[e3];exact hc2),e3]
 . rw[e2];refine List.length_filter_lt_length_iff_exists.mpr ⟨Cy (At n fl) i,HK i0 i1,?_⟩;simp
section
variable(K:W.Frag)
def Jj:Sp:=fun vs H Q _=>∃(b:Addr) (ks:List Int),vs=[.ref b]/\SqL K H b (ks.map V.int)/\ks.Nodup/\ks.length<=1000/\Xh H (Oy ks) Q
def O2:Sp:=fun vs H Q _=>∃(b:Addr) (v:V) (ms:Ms) (fs:List Int) (g:Int->Int),vs=[.ref b,v]/\H b=some (.dK (cK ms))/\TI K H v fs/\fs.length<=1000/\(∀x∈fs,lookI ms x=some (g x)) ∧
 ∀(w:V) (H':Hp),Ah H H'->TI K H' w (fs.map g)->Q w H'
def K2:Sp:=fun vs H Q _=>∃(a b:Addr) (ys:LLInt) (ls:List Int),vs=[.ref a,.ref b]/\LT K H (.ref a) ys/\SqL K H b (ls.map V.int)/\ls.Nodup/\(∀l∈ls,0<=l/\l<(ys.length:Int))/\Xv ys ls/\ls.length<=1000/\(∀x∈ys,x.length<=4) ∧
 ∀(D:Addr) (us:List V) (H':Hp),H D=none->Ah H H'->H' D=some (.lst us)->Reps K H' us ((sub ys ls).map tI)->Q (.ref D) H'
def O1:Sp:=fun vs H Q _=>∃(a:Addr) (v:V) (ys:LLInt) (p:List Int),vs=[.ref a,v]/\LT K H (.ref a) ys/\ys.length<=1000/\(∀x∈ys,x.length<=4)/\TI K H v p/\p.length<=1000/\∀H',Ah H H'->Q (.bl (decide (p∈Fs ys))) H'
def Zu:Sp:=fun vs H Q _=>∃(a:Addr) (v:V) (ys:LLInt) (i j:Int),vs=[.ref a,v]/\LT K H (.ref a) ys/\ys.length<=1000/\(∀x∈ys,x.length<=4)/\TI K H v [i,j]/\[i,j]∈Fs ys/\Xv ys (C6 ys.length [i,j]) ∧
 ∀(R L P:Addr) (us:List V) (H':Hp),Ah H H'->H L=none->H P=none->H' R=some (.tup [.ref L,.ref P])->H' L=some (.lst us)->Reps K H' us ((sub ys (C6 ys.length [i,j])).map tI)->H' P=some (.lst ((C6 ys.length [i,j]).map V.int))->Q (.ref R) H'
def To:Sp:=fun vs H Q _=>∃(a:Addr) (xs:LLInt),vs=[.ref a]/\LT K H (.ref a) xs/\xs.length<=1000/\(∀x∈xs,x.length<=4)/\(∀x∈xs,∀f∈x,0<=f/\f<(xs.length:Int)) ∧
 ∀(R L P M:Addr) (us qu:List V) (H':Hp),Ah H H'->H L=none->H P=none->H M=none->H' R=some (.tup [.ref L,.ref P,.ref M])->H' L=some (.lst us)->Reps K H' us ((sub xs (At xs.length (D6 xs xs.length xs.length (fun _=>true) []).1)).map tI) →
   H' P=some (.lst ((At xs.length (D6 xs xs.length xs.length (fun _=>true) []).1).map V.int))->H' M=some (.lst qu)->Reps K H' qu (((D6 xs xs.length xs.length (fun _=>true) []).2).map tI) →
   Gx xs (At xs.length (D6 xs xs.length xs.length (fun _=>true) []).1)=[]->Xv xs (At xs.length (D6 xs xs.length xs.length (fun _=>true) []).1)->(∀p∈(D6 xs xs.length xs.length (fun _=>true) []).2,p.length=2)->Q (.ref R) H'
end
end Hb
namespace Hb
end Hb
namespace Hb
open PySem L2
def Mv{α:Type}{l:List α}{i:Nat}{d:α}:l.getD i d∈l\/l.getD i d=d:=by
 rw[qa5];by_cases h:i<l.length
 . rw[qa0 h];exact .inl (qc7 h)
 . rw[qg6 (by omega)];exact .inr rfl
section
variable{K:W.Frag}{H:Hp}
end
section
variable(K:W.Frag)
end
end Hb
namespace L2
open PySem PySem.Spec PyProof.Rows PySem.SeqAt
def U3(a b:Addr)(ms ns:List (Int × Int)):Meets (Builtin.«dict.__ne__» ⟨[.ref a,.ref b],[]⟩) (fun A R s=>Kw s.heap a ms/\Kw s.heap b ns/\R (.ok (.ret (.bool (!(ms.length==ns.length&&ms.all fun p=>decide (lookI ns p.1=some p.2)))))) s) :=
 Meets.of_wp fun prog w A R s hs=>by
  obtain⟨ha,hb,h⟩:=hs
  show wpAny (model prog w) A.in1 (do
   let (self,other) ←Builtin.Dict.dictSlotArgs "__ne__" ⟨[.ref a,.ref b],[]⟩
   if !(←isInstance other (.type "dict")) then rule s!"dict.{"__ne__"}.not-a-dict";return ←ret .notImplemented
   ret (.bool ((←Builtin.Dict.samePairs s!"dict.{"__ne__"}" (←Builtin.Dict.addrOf self) (←Builtin.Dict.addrOf other))==false))) _ _ s
  unfold Builtin.Dict.dictSlotArgs;refine qa1 (qa1 (qk6 ha.typeIs ?_));refine qa1 (qa6 ?_);refine qa6 ?_;refine qa1 (qn7 (T:="dict") (b:=true) hb.typeIs isSubtype_dict_dict ?_);rw[if_neg (by decide)];refine qa1 (qa6 (qa1 (qa6 (qa1 (Pz ha hb ?_)))));have e:∀b:Bool,(b==false)=!b:=by decide
  rw[e];exact qa6 ⟨_,rfl,h⟩
def RcNeAt.dicts{A:Around}{s:Shared}{a b:Addr}{ms ns:List (Int × Int)}(ha:Kw s.heap a ms)(hb:Kw s.heap b ns)(hu:A.units<cLine) :
 RcNeAt A s (.ref a) (.ref b) (!(ms.length==ns.length&&ms.all fun p=>decide (lookI ns p.1=some p.2))):=fun prog w E Q h =>
 richCompare_meets_room (op:=.NotEq) ha.typeIs hb.typeIs qq9 PySem.F.entry_dict_ne (PySem.F.args_dict_ne_2 _ _) (U3 a b ms ns)
  ⟨ha,hb,show Value.bool (!(ms.length==ns.length&&ms.all fun p=>decide (lookI ns p.1=some p.2)))≠Value.notImplemented/\_ from⟨(fun x=>nomatch x),h⟩⟩ hu
def Ab7:R2:=fun x y H Q=>∃a b ms ns,x=.ref a/\y=.ref b/\Rd H a (.dK (cK ms))/\Rd H b (.dK (cK ns))/\Q (.bl (!sameC ms ns)) H
section
variable{X:Cx}{n:Nat}{K:W.Frag}
def EE(hu:X.A.units+n<cLine):OpR X (compareOp .NotEq) Ab7:=by
 intro Ac s σ H x y v u Q I rx ry h;obtain⟨a,b,ms,ns,rfl,rfl,ha,hb,q⟩:=h;cases rx;cases ry;exact RcNeAt.dicts (I.idict ha) (I.idict hb) (by omega) X.prog X.w X.xe _ ⟨.bl (!sameC ms ns),H,I,rfl,q⟩
def KR(hc:X.calm=true):CallR X (.builtin "any") (fun xs H Q=>∃(p:Addr) (bs:List Bool),xs=[.ref p]/\SqL X.K H p (bs.map V.bl)/\Q (.bl (bs.any id)) H):=by
 intro Ac s σ H xs us Q I r h;obtain⟨p,bs,rfl,hq,q⟩:=h;obtain⟨u,rfl,ru⟩:=L5 r;cases ru;obtain⟨its,rv,pl,hz⟩:=I.list hq;have hh:X.A.handled=none:=I.ok.hd hc
 have rel:∀(i:Nat) (v:Value),its.toArray[i]?=some v->∃b,bs[i]?=some b/\v=.bool b:=fun i v e=>by
  have e':its[i]?=some v:=by simpa using e
  have hlt:i<its.length:=(qa2.mp e').1;have l1:=rv.length;rw[qa3]at l1;have hb:bs[i]?=some (bs[i]'(by omega)):=by simp<;>omega
  obtain⟨u,hu,ru⟩:=rv.get (i:=i) (x:=V.bl (bs[i]'(by omega))) (by rw[qa7,hb];rfl);rw[e']at hu;cases hu;exact⟨_,hb,ru⟩
 refine call_any_walk (ql3 pl.isList ?_);refine⟨s.heap.objs.size,[s.heap.objs.size,p],[s.heap.objs.size],its.toArray.size,_,_,fun i=>(bs[i]?).getD false,rfl,Walks.list (show X.A.in1.handled=none from hh) s.heap.objs.size p ?_ its.toArray,⟨⟨_,qb3 _ rfl,rfl,rfl⟩,?_⟩,?_,fun h' tk k=>?_⟩
 . obtain⟨o,_,ho,_⟩:=pl;exact qb8 (qa9 ho)
 . exact pl.isList.at fun o e=>qa4 _ e
 . intro i v s' Q' E' hv hQ;obtain⟨b,hb,rfl⟩:=rel i v hv;dsimp only at hQ;rw[hb]at hQ;exact qg8 hQ
 . have e:(List.range its.toArray.size).any (fun i=>(bs[i]?).getD false)=bs.any id:=by
    have l1:=rv.length;rw[qa3]at l1;rw[qc1,←l1];rw[qh4,qj8,qj8];constructor
    . rintro ⟨i,hi,hx⟩;have hlt:=qe6.mp hi;have hb:bs[i]?=some bs[i]:=by simp
      rw[hb]at hx;exact⟨_,qc7 hlt,hx⟩
    . rintro ⟨b,hb,hx⟩;obtain⟨i,hi⟩:=qi8 hb;refine⟨i,qe6.mpr (qa2.mp hi).1,?_⟩;rw[hi];exact hx
   rw[e];have I1:Inv X Ac σ H { s with heap:=h',toks:=tk }:=I.kept (fun b o e=>k b o (by simp;exact qb8 (qa9 e)) (qa4 _ e));exact⟨.bl (bs.any id),H,I1,rfl,q⟩
def kU:bootBuiltins "any"=some (.builtin "any"):=by decide +kernel
def fF(hc:X.calm=true)(hK:X.K=K:=by rfl):CallR X (.builtin "any") (fun xs H Q=>∃(p:Addr) (bs:List Bool),xs=[.ref p]/\SqL K H p (bs.map V.bl)/\Q (.bl (bs.any id)) H):=by subst hK;exact KR hc
end
end L2
namespace L2
open PySem PySem.Spec PyProof.Rows
section
variable{prog:Program}{w:World}{A:Around}{E:Value->Shared->Prop}{s:Shared}
def Te{j t:Addr}{n:Nat}{vs:Array Value}{x:Value}{Q:Value->Shared->Prop}(g:s.heap.IsTupleIter j t n)(gt:s.heap.IsTuple t vs)(gx:vs[n]?=some x)
 (k:∀h',h'.IsTupleIter j t (n+1)->Heap.SameBut j s.heap h'->Q x { s with heap:=h' }):wpAny (model prog w) A (Builtin.SmallTypes.nextOf (.ref j)) Q E s:=by
 obtain⟨o,q1,q2,q3⟩:=id g;obtain⟨p,p1,_,m,p2⟩:=gt;unfold Builtin.SmallTypes.nextOf;refine qa1 (wpAny_callSpecial?_slot (name:=Str.ofString "__next__") g.typeIs ql5 (qf5 ql5 g.typeIs F.entry_tuple_iterator_next ?_ (F.args_tuple_iterator_next_1 _)));show wpAny _ _ (field (.ref j) 0>>=_) _ _ s;refine qa1 (qg7 q1 q3 (x:=.ref t) rfl ?_);show wpAny _ _ (if (Value.ref t==Value.none)=true then _ else _) _ _ s;rw[if_neg (show ¬((Value.ref t==Value.none)=true) from qc2)];show wpAny _ _ (field (.ref j) 1>>=_) _ _ s;refine qa1 (qg7 q1 q3 (x:=.int n 0) rfl ?_);show wpAny _ _ (seqItems? (.ref t)>>=_) _ _ s;refine qa1 (ql9 p1 p2 ?_);simp only[qd0,gx];refine qa1 (wpAny_setField q1 q3 (by simp) (qa6 ⟨x,rfl,qa6 (k _ ?_ (qo7 ..))⟩));exact⟨_,qf9 _ q1 (Obj.isFreed_of_fields (Obj.data_mapFields q3 _)),(Obj.cls_mapFields ..).trans q2,by rw[Obj.data_mapFields q3];simp[rawInt]⟩
def Ux{j t:Addr}{n:Nat}{vs:Array Value}{Q:Value->Shared->Prop}(hn:A.handled=none)(g:s.heap.IsTupleIter j t n)(gt:s.heap.IsTuple t vs)(gx:vs[n]?=none)
 (k:∀h' e,Heap.ExtBut j s.heap h'->(∃o,h'.get? e=some o/\o.cls=.type "StopIteration")->E (.ref e) { s with heap:=h' }):wpAny (model prog w) A (Builtin.SmallTypes.nextOf (.ref j)) Q E s:=by
 obtain⟨o,q1,q2,q3⟩:=id g;obtain⟨p,p1,_,m,p2⟩:=gt;unfold Builtin.SmallTypes.nextOf;refine qa1 (wpAny_callSpecial?_slot (name:=Str.ofString "__next__") g.typeIs ql5 (qf5 ql5 g.typeIs F.entry_tuple_iterator_next ?_ (F.args_tuple_iterator_next_1 _)));show wpAny _ _ (field (.ref j) 0>>=_) _ _ s;refine qa1 (qg7 q1 q3 (x:=.ref t) rfl ?_);show wpAny _ _ (if (Value.ref t==Value.none)=true then _ else _) _ _ s;rw[if_neg (show ¬((Value.ref t==Value.none)=true) from qc2)];show wpAny _ _ (field (.ref j) 1>>=_) _ _ s;refine qa1 (qg7 q1 q3 (x:=.int n 0) rfl ?_);show wpAny _ _ (seqItems? (.ref t)>>=_) _ _ s;refine qa1 (ql9 p1 p2 ?_);simp only[qd0,gx];refine qa1 (wpAny_rule (qa1 (wpAny_setField q1 q3 (by simp) ?_)));show wpAny _ _ (newExc (.type "StopIteration") []>>=_) _ _ _;refine qa1 ?_;simp only[newExc,newTuple];refine qa1 (qg0 ?_ (by size_fits));refine qa1 (m:=firstArgMember _ _) (wpAny_of_eq (a:=Value.none) (by first | rfl | (simp only[firstArgMember];rfl)) ?_);refine qg0 ?_ (by size_fits);simp only[raiseNew];refine qa1 (wpAny_handled ?_)
 first | rw[show A.in1.handled=none from hn] | rw[hn]
 refine qa1 (qa6 (wpAny_throw ?_));exact k _ _ (((qo7 ..).extBut.push _).push _) ⟨_,qb3 _ rfl,rfl⟩
end
abbrev zt1(h:Heap)(a:Addr):Heap:=h.push { cls:=.type "tuple_iterator",data:=.fields #[.ref a,.int 0 0] }
section
variable{prog:Program}{w:World}{A:Around}{E:Value->Shared->Prop}{s:Shared}
end
section
variable{g:TG}{tc:TT}{te:TE}{D:Addr}{Q:Hp->Prop}{τ:St}{H:Hp}
end
end L2
namespace L2
open PySem PySem.Spec PyProof.Rows
open AutoSeq1 (wpAny_loadPart')
def JY(t:Addr)(vs:Array Value)(n:Nat)(dd:OAddr)(sl:Bs):Meets (Builtin.«enumerate.__new__» ⟨[.type "enumerate",.ref t],[]⟩) (fun _ R s=>s.heap.get? t=some { cls:=.type "tuple",dict:=dd,data:=.seq vs n,slots:=sl } ∧
 R (.ok (.ret (.ref (zt1 s.heap t).objs.size))) { s with heap:=(zt1 s.heap t).push { cls:=.type "enumerate",data:=.fields #[.none,.bool false,.ref s.heap.objs.size,rawInt 0,.none,.none] } }) :=
 .of_wp fun prog w A R s h=>by
  obtain⟨hp,g,d,tk,os⟩:=s;obtain⟨q1,q2⟩:=h;have hsub:=sub_enumerate;have gt:Heap.IsTuple (Shared.heap ⟨hp,g,d,tk,os⟩) t vs:=⟨_,q1,rfl,n,rfl⟩
  wp_walk using wpAny_loadPart' q1
  refine wpAny_stack_any fun st=>qa6 ?_;split
  . rename_i c _ _ _ _ _
    cases (c==Value.type "enumerate")
    . wp_walk using wpAny_loadPart' q1,qp4 gt
      exact⟨_,rfl,q2⟩
    . wp_walk using wpAny_loadPart' q1,qp4 gt
      exact⟨_,rfl,q2⟩
  . wp_walk using wpAny_loadPart' q1,qp4 gt
    exact⟨_,rfl,q2⟩
section
variable{prog:Program}{w:World}{A:Around}{E:Value->Shared->Prop}{s:Shared}
def fP{e j t:Addr}{n:Nat}{vs:Array Value}{x old:Value}{Q:Value->Shared->Prop}(ge:IsEnum s.heap e j n old)(gj:s.heap.IsTupleIter j t n)(gt:s.heap.IsTuple t vs)(gx:vs[n]?=some x)(ne:e≠j)
 (k:∀h',IsEnumOut h' e j ((n:Int)+1) x s.heap.objs.size->h'.IsTupleIter j t (n+1)->h'.get? s.heap.objs.size=some { cls:=.type "tuple",data:=.seq #[.int n s.toks,x] }->h'.objs.size=s.heap.objs.size+1 →
   (∀b o,b≠e->b≠j->s.heap.get? b=some o->h'.get? b=some o)->Q (.ref s.heap.objs.size) { s with heap:=h',toks:=s.toks+1 }) :
 wpAny (model prog w) A (Builtin.«enumerate.__next__» ⟨[.ref e],[]⟩) (fun fin s'=>∃r,fin=.done (.ret r)/\Q r s') E s:=by
 obtain⟨hp,g,d,tk,os⟩:=s;show wpAny _ _ (field (.ref e) 2>>=_) _ _ _;refine qa1 (qg7 ge rfl (x:=.ref j) rfl ?_);refine qa1 (Te gj gt gx fun k1 gj1 w1=>?_)
 replace w1:Heap.SameBut j hp k1:=w1
 have ge1:IsEnum k1 e j n old:=(w1.2 e ne).trans ge;show wpAny _ _ (field (.ref e) 3>>=_) _ _ ⟨k1,g,d,tk,os⟩;refine qa1 (qg7 ge1 rfl (x:=rawInt n) rfl ?_);show wpAny _ _ (field (.ref e) 4>>=_) _ _ ⟨k1,g,d,tk,os⟩;refine qa1 (qg7 ge1 rfl (x:=.none) rfl ?_);show wpAny _ _ (mkInt n>>=_) _ _ ⟨k1,g,d,tk,os⟩;refine qa1 (wpAny_mkInt ?_);show wpAny _ _ (setField (.ref e) 3 (rawInt ((n:Int)+1))>>=_) _ _ ⟨k1,g,d,tk+1,os⟩;refine qa1 (qg2 ge1 (by simp) fun k2 zP w2=>?_)
 replace w2:Heap.SameBut e k1 k2:=w2
 replace zP:IsEnum k2 e j ((n:Int)+1) old:=zP
 show wpAny _ _ (setField (.ref e) 4 .none>>=_) _ _ ⟨k2,g,d,tk+1,os⟩;refine qa1 (qg2 zP (by simp) fun k3 ZO w3=>?_)
 replace w3:Heap.SameBut e k2 k3:=w3
 replace ZO:IsEnum k3 e j ((n:Int)+1) old:=ZO
 show wpAny _ _ (newTuple [.int n tk,x]>>=_) _ _ ⟨k3,g,d,tk+1,os⟩;refine qa1 (wpAny_newTuple ?_);have zO:IsEnum (k3.push { cls:=.type "tuple",data:=.seq #[.int n tk,x] }) e j ((n:Int)+1) old:=qa4 _ ZO;generalize LD:k3.push { cls:=.type "tuple",data:=.seq #[.int n tk,x] }=k4 at zO;have sz:k3.objs.size=hp.objs.size:=by rw[w3.1,w2.1,w1.1]
 have le:e<hp.objs.size:=qa9 ge;have gt4:k4.get? hp.objs.size=some { cls:=.type "tuple",data:=.seq #[.int n tk,x] }:=by rw[←LD,←sz];exact qb3 _ rfl
 have sz4:k4.objs.size=hp.objs.size+1:=by rw[←LD,qj0,sz]
 have kp4:∀b o,b≠e->b≠j->hp.get? b=some o->k4.get? b=some o:=fun b o n1 n2 q=>by
  rw[←LD];exact qa4 _ (w3.extBut b o n1 (w2.extBut b o n1 (w1.extBut b o n2 q)))
 have gj4:k4.IsTupleIter j t (n+1):=by
  rw[←LD];obtain⟨o,q,r⟩:=(gj1.extBut w2.extBut (Ne.symm ne)).extBut w3.extBut (Ne.symm ne);exact⟨o,qa4 _ q,r⟩
 show wpAny _ _ (Builtin.SmallTypes.ownedTupleIsFree (.ref e)>>=_) _ _ ⟨k4,g,d,tk+1,os⟩;rw[sz];clear LD ZO w3 zP w2 ge1 w1 gj1 sz k3 k2 k1;refine qa1 ?_;unfold Builtin.SmallTypes.ownedTupleIsFree;refine qa1 (qg7 zO rfl (x:=.none) rfl (qa6 ?_));simp only[if_true];refine qa1 (wpAny_rule ?_);refine qa1 (qg7 zO rfl (x:=old) rfl ?_);refine qa1 (qg2 zO (by simp) fun k5 ge5 w5=>?_)
 replace w5:Heap.SameBut e k4 k5:=w5
 replace ge5:IsEnum k5 e j ((n:Int)+1) x:=ge5
 show wpAny _ _ (Builtin.SmallTypes.ownedTupleHandOut (.ref e) (.ref hp.objs.size)>>=_) _ _ ⟨k5,g,d,tk+1,os⟩;refine qa1 ?_;unfold Builtin.SmallTypes.ownedTupleHandOut;refine qa1 (qg2 ge5 (by simp) fun k6 ge6 w6=>?_)
 replace w6:Heap.SameBut e k5 k6:=w6
 replace ge6:IsEnumOut k6 e j ((n:Int)+1) x hp.objs.size:=ge6
 refine qg2 ge6 (by simp) fun k7 ge7 w7=>?_
 replace w7:Heap.SameBut e k6 k7:=w7
 replace ge7:IsEnumOut k7 e j ((n:Int)+1) x hp.objs.size:=ge7
 refine qa1 (qk7 (qa6 ⟨_,rfl,k k7 ge7 ?_ ?_ ?_ ?_⟩))
 . exact((gj4.extBut w5.extBut (Ne.symm ne)).extBut w6.extBut (Ne.symm ne)).extBut w7.extBut (Ne.symm ne)
 . exact w7.extBut _ _ (qi5 le) (w6.extBut _ _ (qi5 le) (w5.extBut _ _ (qi5 le) gt4))
 . rw[w7.1,w6.1,w5.1,sz4]
 . exact fun b o n1 n2 q=>w7.extBut b o n1 (w6.extBut b o n1 (w5.extBut b o n1 (kp4 b o n1 n2 q)))
def Td{e j t:Addr}{n:Nat}{vs:Array Value}{x old:Value}{Q:Option Value->Shared->Prop}(ge:IsEnum s.heap e j n old)(gj:s.heap.IsTupleIter j t n)(gt:s.heap.IsTuple t vs)(gx:vs[n]?=some x)(ne:e≠j)
 (k:∀h',IsEnumOut h' e j ((n:Int)+1) x s.heap.objs.size->h'.IsTupleIter j t (n+1)->h'.get? s.heap.objs.size=some { cls:=.type "tuple",data:=.seq #[.int n s.toks,x] }->h'.objs.size=s.heap.objs.size+1 →
   (∀b o,b≠e->b≠j->s.heap.get? b=some o->h'.get? b=some o)->Q (some (.ref s.heap.objs.size)) { s with heap:=h',toks:=s.toks+1 }):wpAny (model prog w) A (pyNext (.ref e)) Q E s:=by
 have ht:s.TypeIs (.ref e) "enumerate":=⟨_,ge,rfl⟩
 unfold pyNext;exact qa1 (wpAny_attempt (wpAny_callSpecial?_slot (name:=Str.ofString "__next__") ht qn6 (qf5 qn6 ht F.entry_enumerate_next (fP ge gj gt gx ne fun h' a b c d q=>qa6 (k h' a b c d q)) (F.args_enumerate_next_1 _))))
def Uw{e j t:Addr}{n:Nat}{vs:Array Value}{old:Value}{Q:Option Value->Shared->Prop}(hn:A.handled=none)(ge:IsEnum s.heap e j n old)(gj:s.heap.IsTupleIter j t n)(gt:s.heap.IsTuple t vs)(gx:vs[n]?=none)
 (k:∀h',Heap.ExtBut j s.heap h'->Q none { s with heap:=h' }):wpAny (model prog w) A (pyNext (.ref e)) Q E s:=by
 have ht:s.TypeIs (.ref e) "enumerate":=⟨_,ge,rfl⟩
 unfold pyNext;refine qa1 (wpAny_attempt (wpAny_callSpecial?_slot (name:=Str.ofString "__next__") ht qn6 (qf5 qn6 ht F.entry_enumerate_next ?_ (F.args_enumerate_next_1 _))));show wpAny _ _ (field (.ref e) 2>>=_) _ _ _;refine qa1 (qg7 ge rfl (x:=.ref j) rfl ?_);refine qa1 (Ux hn gj gt gx fun h' x he hx=>?_);obtain⟨o,q1,q2⟩:=hx;exact qa1 (qn7 (T:="StopIteration") (b:=true) ⟨o,q1,q2⟩ isSubtype_stop (qa6 (k _ he)))
def fZ{t:Addr}{vs:Array Value}{Q:Value->Shared->Prop}(gt:s.heap.IsTuple t vs)
 (k:∀h',IsEnum h' (s.heap.objs.size+1) s.heap.objs.size 0 .none->h'.IsTupleIter s.heap.objs.size t 0->h'.objs.size=s.heap.objs.size+2->(∀b o,s.heap.get? b=some o->h'.get? b=some o)->Q (.ref (s.heap.objs.size+1)) { s with heap:=h' }) :
 wpAny (model prog w) A (call (.type "enumerate") [.ref t]) Q E s:=by
 obtain⟨⟨c,dd,dt,sl⟩,q,qc,n,qd⟩:=gt
 replace qc:c=.type "tuple":=qc
 replace qd:dt=.seq vs n:=qd
 subst qc qd;refine callType_new F.called_enumerate (by decide) (F.typeCall_enumerate_1 _) (F.newCall_enumerate_1 _) (fun obj=>F.args_object_init_2 obj _) F.entry_enumerate_new (JY t vs n dd sl) ⟨q,?_⟩;have z1:(zt1 s.heap t).objs.size=s.heap.objs.size+1:=qj0 ..;show _/\_;rw[z1]
 have ge:IsEnum ((zt1 s.heap t).push { cls:=.type "enumerate",data:=.fields #[.none,.bool false,.ref s.heap.objs.size,rawInt 0,.none,.none] }) (s.heap.objs.size+1) s.heap.objs.size 0 .none:=by
  have:=qb3 (zt1 s.heap t) (o:={ cls:=.type "enumerate",data:=.fields #[.none,.bool false,.ref s.heap.objs.size,rawInt 0,.none,.none] }) rfl;rw[z1]at this;exact this
 exact⟨⟨_,ge,rfl⟩,k _ ge ⟨_,qa4 _ (qb3 _ rfl),rfl,rfl⟩ (by rw[qj0,z1]) fun b o x=>qa4 _ (qa4 _ x)⟩
end
noncomputable def IteT(K:W.Frag)(a:Addr):It :=
 ⟨fun i H=>∃xs x,Fw K H a xs/\xs[i]?=some x,fun i H x H'=>∃p v,H p=none/\x=.ref p/\H'=upd H p (.tup [.int i,v])/\∀xs,Fw K H a xs->xs[i]?=some v,fun i H=>∃xs,Fw K H a xs/\xs.length<=i⟩
def DP{P:Program}{w:World}{K:W.Frag}{es:List Expr}{x1:Nat}{tpos:Pos}(a e it:Addr)(hne:e≠it):Xt P w K (.Tuple es x1 tpos) (IteT K a) [e,it] e (fun i h=>(∃old,IsEnum h e it (i:Int) old)/\h.IsTupleIter it a i) where
 mem:=by simp
 obj:=fun i h st b hb=>by
  obtain⟨⟨old,h1⟩,o,h2,c,d⟩:=st;rcases qc0.mp hb with rfl | hb
  . exact⟨_,h1,fun v z=>by cases (show Data.fields _=Data.cell v from z)⟩
  . have z:b=it:=by simpa using hb
    subst z;exact⟨o,h2,fun v z=>by rw[d]at z;cases z⟩
 keep:=fun i h h' st k=>by
  obtain⟨⟨old,h1⟩,h2⟩:=st;exact⟨⟨old,k e (by simp) _ h1⟩,h2.at fun o z=>k it (by simp) o z⟩
 item:=by
  intro X hP hw hK hc i Ac s σ H E I hf st hg;subst hP hw hK;obtain⟨⟨old,h1⟩,h2⟩:=st;obtain⟨xs,x,hq,hx⟩:=hg;obtain⟨its,rv,p,hz⟩:=I.tuple hq;obtain⟨u,hu,ru⟩:=rv.get hx;have fe:=hf e (by simp);have fi:=hf it (by simp);have XW:e<s.heap.objs.size:=qa9 h1;have hfresh:H s.heap.objs.size=none:=I.hok.fresh (qa8 _);refine Td h1 h2 (show s.heap.IsTuple a its.toArray from p) (x:=u) (by simpa using hu) hne fun h' hout VJ htup hsz hk=>?_;refine⟨_,rfl,wpAny_letOwnedTupleGo_enum hout fun h3 hen Th=>?_⟩
  replace Th:Heap.SameBut e h' h3:=Th
  have kk:∀b o,b≠e->b≠it->s.heap.get? b=some o->h3.get? b=some o:=fun b o n1 n2 z=>(Th.2 b n1).trans (hk b o n1 n2 z);have vF:h3.get? s.heap.objs.size=some { cls:=.type "tuple",data:=.seq #[.int i s.toks,u] }:=(Th.2 _ (qi5 XW)).trans htup;have hi3:h3.IsTupleIter it a (i+1):=VJ.at fun o z=>(Th.2 it hne.symm).trans z;have j6:∀b,b ∉ [e,it]->b≠e/\b≠it:=fun b hb=>by simpa using hb
  have AI:∀b v,H b=some v->b≠e/\b≠it:=fun b v z=>⟨Ap z fe.1,Ap z fi.1⟩
  have Uu:∀b v,H b=some v->b≠s.heap.objs.size:=fun b v z=>Ap z hfresh;refine⟨.ref s.heap.objs.size,upd H s.heap.objs.size (.tup [.int i,x]),?_,rfl,⟨s.heap.objs.size,x,hfresh,rfl,rfl,fun ys hy=>by rw[I.tuple_inj hy hq];exact hx⟩,⟨⟨_,hen⟩,hi3⟩,fun b hb=>?_⟩
  . refine Inv.step (s:=s) (h':=h3) (t':=s.toks+1) (H':=upd H s.heap.objs.size (.tup [.int i,x])) I (g':=s.gens) (d':=s.drawn) (ch:=[e,it]) (fun b hb=>?_) (fun b o _ _ hb z _=>kk b o (j6 b hb).1 (j6 b hb).2 z) (fun b o _ _ hb z _=>⟨o.slots,kk b o (j6 b hb).1 (j6 b hb).2 z⟩) (fun b o hb z n=>?_) (fun b o hb z=>⟨o,kk b o (j6 b hb).1 (j6 b hb).2 z⟩)
     (fun b ys z=>by rw[Ai (Uu b _ z)];exact z) (fun b o v z=>by rw[Ai (Uu b _ z)];exact z) (fun b ps z=>⟨#[],by rw[Ai (Uu b _ z),z];simp⟩) (fun m hm=>?_) (fun b v z=>?_) I.bare
    . rcases qc0.mp hb with rfl | hb
      . exact⟨fe.2.2.2.1,fe.2.1,fe.2.2.2.2.1,fe.2.2.2.2.2⟩
      . have z:b=it:=by simpa using hb
        subst z;exact⟨fi.2.2.2.1,fi.2.1,fi.2.2.2.2.1,fi.2.2.2.2.2⟩
    . rw[Ai (qb8 (qa9 z))];exact n
    . obtain⟨o,es',ep,ho,r⟩:=hm;exact⟨o,es',ep,kk _ o fe.2.1.symm fi.2.1.symm ho,r⟩
    . by_cases hb:b=s.heap.objs.size
      . subst hb;rw[Ab]at z;cases z;exact⟨(by show(2:Nat)<=sizeLine;decide),[.int i s.toks,u],.cons ⟨_,rfl⟩ (.cons ru .nil),⟨_,vF,rfl,rfl,_,rfl⟩⟩
      . rw[Ai hb]at z;refine(I.hok b v z).stay (fun c y hc' q=>?_) (fun c q=>by rw[Ai (Uu c _ q)];exact q) fun c ys q=>by rw[Ai (Uu c _ q)];exact q
        rcases hc' with rfl | hc'
        . exact kk _ _ (AI _ _ z).1 (AI _ _ z).2 q
        . exact kk _ _ (AI _ _ hc').1 (AI _ _ hc').2 q
  . have lb:b<s.heap.objs.size:=by
     rcases qc0.mp hb with rfl | hb
     . exact XW
     . have z:b=it:=by simpa using hb
       subst z;obtain⟨o,z,_⟩:=h2;exact qa9 z
    rw[Ai (qb8 lb)];exact(hf b hb).1
 done:=by
  intro X hP hw hK hc i Ac s σ H E I hf st hg;subst hP hw hK;obtain⟨⟨old,h1⟩,h2⟩:=st;obtain⟨xs,hq,hx⟩:=hg;obtain⟨its,rv,p,hz⟩:=I.tuple hq;obtain⟨f0,f1,f2,f3,f4,f5⟩:=hf it (by simp);have hl:=rv.length;exact Uw (I.ok.hd hc) h1 h2 (show s.heap.IsTuple a its.toArray from p) (by simp;omega) fun h' eb=>⟨rfl,I.turned (t':=s.toks) (fun b o hb z=>eb b o hb z) f0 f1 f3 f4 f5⟩
 self:=fun _ _ _ _ _ st h=>by
  obtain⟨⟨old,h1⟩,h2⟩:=st;exact qp9 h1 h
def VE(K:W.Frag)(ta:TA):TI:=fun σ H R=>ta σ H fun vs H1=>∃a,vs=[.ref a]/\(∃xs,Fw K H1 a xs)/\R (IteT K a) H1
def Sh:bootBuiltins "enumerate"=some (.type "enumerate"):=by decide +kernel
theorem mF{X:Cx}{K:W.Frag}{es:List Expr}{x1:Nat}{tpos:Pos}{a:Expr}{ta:TA}{p pos:Pos}(hg:Gl X "enumerate")(hm:X.mg "enumerate"=none)(ha:PA X [a] ta)(hK:X.K=K:=by rfl)(hs:starEach [a] X.env=[(false,eval a X.env)]:=by rfl):PI X (.Tuple es x1 tpos) (.Call (.Name "enumerate" p) [a] [] pos) (VE K ta):=by
 subst hK;intro Ac s σ H R I h;refine Call_ (Mz I hg hm Sh (qg9 (Cz (ha pos Ac s σ H _ I h) fun us s1 _z=>?_) hs rfl));obtain⟨vs,H1,I1,r1,q1⟩:=_z;obtain⟨l,e,⟨xs,hq⟩,q⟩:=q1;subst e;cases r1 with
 | cons r rr =>
   cases rr;cases r;obtain⟨its,rv,pl,hz⟩:=I1.tuple hq;refine fZ (show s1.heap.IsTuple l its.toArray from pl) fun h' hen hit hsz hk=>?_;refine qp9 hen ⟨s1.heap.objs.size+1,[s1.heap.objs.size+1,s1.heap.objs.size],_,_,H1,rfl,I1.kept (t':=s1.toks) hk,DP l _ _ (ql1 _),⟨⟨_,hen⟩,hit⟩,fun b hb=>?_,q⟩
   have lb:s1.heap.objs.size<=b:=by
    rcases qc0.mp hb with rfl | hb
    . exact qp0 _
    . have z:b=s1.heap.objs.size:=by simpa using hb
      rw[z];exact qa8 _
   exact I1.fpOk lb (I1.hok.fresh lb)
section
variable{g:TG}{tc:TT}{te:TE}{D:Addr}{Q:Hp->Prop}{τ:St}{H:Hp}
def jX{K:W.Frag}{a:Addr}{xs:List V}{g:TG}{tb:TS}{D:Ends}{σ:St}{H:Hp}(Pv:Nat->St->Hp->Prop)(h0:Pv 0 σ H)(hl:∀i σ H,i<=xs.length->Pv i σ H->Fw K H a xs)
 (hs:∀i x σ H p,xs[i]?=some x->Pv i σ H->H p=none->g (.ref p) σ (upd H p (.tup [.int i,x])) fun σ2 H2=>tb { D with nx:=Pv (i+1),ct:=Pv (i+1),bk:=D.nx } σ2 H2) (hd:∀σ H,Pv xs.length σ H->D.nx σ H) :
 ∃W:Nat->Nat->St->Hp->Prop,(∃m,W 0 m σ H)/\∀i m σ H,W i m σ H →
   ((IteT K a).stop i H/\D.nx σ H)\/((IteT K a).go i H/\∃N:St->Hp->Prop,(∀σ' H',N σ' H'->∃m',m'<m/\W (i+1) m' σ' H')/\∀x H',(IteT K a).yld i H x H'->g x σ H' fun σ2 H2=>tb { D with nx:=N,ct:=N,bk:=D.nx } σ2 H2):=by
 refine⟨fun i m σ H=>m=xs.length-i/\i<=xs.length/\Pv i σ H,⟨xs.length,by simp,qb6 _,h0⟩,?_⟩;rintro i m σ H ⟨rfl,hi,pp⟩;have q:=hl i σ H hi pp;by_cases hlt:i<xs.length
 . refine .inr ⟨⟨xs,xs[i],q,by simp[hlt]⟩,Pv (i+1),fun σ' H' p'=>⟨xs.length-(i+1),by omega,rfl,hlt,p'⟩,fun x H' y=>?_⟩;obtain⟨p,v,hp,rfl,rfl,y⟩:=y;exact hs i v σ _ p (y xs q) pp hp
 . have e:i=xs.length:=by omega
   subst e;exact .inl ⟨⟨xs,q,qa8 _⟩,hd σ H pp⟩
end
end L2
namespace Hb
def Dz(fs:List Int)(f:Int):Nat->Int
 | 0=>0
 | i+1=>if fs.getD i 0=f then Dz fs f i+1-2*((i:Int)%2) else Dz fs f i
def P9(fs:List Int)(f:Int):Int:=Dz fs f fs.length
def vC(x e:Int):Int:=if x=e then 1 else 0
def QN(e:Int):P9 [] e=0:=rfl
def gP(x y e:Int):P9 [x,y] e=vC x e-vC y e:=by
 show(if y=e then(if x=e then(0:Int)+1-2*(((0:Nat):Int)%2) else 0)+1-2*(((1:Nat):Int)%2) else(if x=e then(0:Int)+1-2*(((0:Nat):Int)%2) else 0))=_;unfold vC;split<;>split<;>simp_all
def GO(x y z e:Int):P9 [x,y,z] e=vC x e-vC y e+vC z e:=by
 show(if z=e then P9 [x,y] e+1-2*(((2:Nat):Int)%2) else P9 [x,y] e)=_;rw[gP];unfold vC;split<;>simp_all<;>omega
theorem qV{l:List Int}(h:l.length=2):∃a b,l=[a,b]:=by
 match l,h with
 | [a,b],_=>exact⟨a,b,rfl⟩
theorem nH{l:List Int}(h:l.length=3):∃a b c,l=[a,b,c]:=by
 match l,h with
 | [a,b,c],_=>exact⟨a,b,c,rfl⟩
theorem Ad2{l:List Int}(h:l.length=4):∃a b c d,l=[a,b,c,d]:=by
 match l,h with
 | [a,b,c,d],_=>exact⟨a,b,c,d,rfl⟩
def sg(i:Nat):Int:=1-2*((i:Int)%2)
def WU{xs:LLInt}(hs:B0 xs){k:Nat}{q:List Int}(hq:xs[k]?=some q)(e:Int):aN (fun i=>sg i*P9 (xs.getD (q.getD i 0).toNat []) e) q.length=0:=by
 have F:=hs k q hq
 have face:∀f∈q,∃p,xs.getD f.toNat []=p/\(xs.take k)[f.toNat]?=some p/\lev p+1=lev q/\(p.length=0\/p.length=2\/p.length=3\/p.length=4):=by
  intro f hf;obtain⟨p,hp,hl⟩:=F.bel f hf
  have hp2:xs[f.toNat]?=some p:=by
   rw[qo0]at hp;split at hp
   . exact hp
   . cases hp
  exact⟨p,by rw[qa5,hp2];rfl,hp,hl,(hs _ _ hp2).cnt⟩
 rcases F.cnt with h | h | h | h
 . rw[h];rfl
 . obtain⟨a,b,rfl⟩:=qV h;obtain⟨A,ha,_,la,ca⟩:=face a (by simp);obtain⟨B,hb,_,lb,cb⟩:=face b (by simp);have za:A=[]:=by unfold lev at la;simp at la;apply List.eq_nil_of_length_eq_zero;omega
   have zb:B=[]:=by unfold lev at lb;simp at lb;apply List.eq_nil_of_length_eq_zero;omega
   subst za zb;show(0:Int)+sg 0*P9 (xs.getD a.toNat []) e+sg 1*P9 (xs.getD b.toNat []) e=0;rw[ha,hb,QN];simp
 . obtain⟨a,b,c,rfl⟩:=nH h;obtain⟨A,ha,ga,la,ca⟩:=face a (by simp);obtain⟨B,hb,gb,lb,cb⟩:=face b (by simp);obtain⟨C,hc,gc,lc,cc⟩:=face c (by simp);obtain⟨a0,a1,rfl⟩:=qV (l:=A) (by unfold lev at la;simp at la;omega);obtain⟨b0,b1,rfl⟩:=qV (l:=B) (by unfold lev at lb;simp at lb;omega);obtain⟨c0,c1,rfl⟩:=qV (l:=C) (by unfold lev at lc;simp at lc;omega);have G:=F.agr (by simp);have e1:=G 0 1 b a _ _ (by decide) rfl rfl gb ga;have e2:=G 0 2 c a _ _ (by decide) rfl rfl gc ga;have e3:=G 1 2 c b _ _ (by decide) rfl rfl gc gb;simp at e1 e2 e3;subst e1 e2 e3;show(0:Int)+sg 0*P9 (xs.getD a.toNat []) e+sg 1*P9 (xs.getD b.toNat []) e+sg 2*P9 (xs.getD c.toNat []) e=0;rw[ha,hb,hc,gP,gP,gP];simp[sg];omega
 . obtain⟨a,b,c,d,rfl⟩:=Ad2 h;obtain⟨A,ha,ga,la,ca⟩:=face a (by simp);obtain⟨B,hb,gb,lb,cb⟩:=face b (by simp);obtain⟨C,hc,gc,lc,cc⟩:=face c (by simp);obtain⟨D,hd,gd,ld,cd⟩:=face d (by simp);obtain⟨a0,a1,a2,rfl⟩:=nH (l:=A) (by unfold lev at la;simp at la;omega);obtain⟨b0,b1,b2,rfl⟩:=nH (l:=B) (by unfold lev at lb;simp at lb;omega);obtain⟨c0,c1,c2,rfl⟩:=nH (l:=C) (by unfold lev at lc;simp at lc;omega);obtain⟨d0,d1,d2,rfl⟩:=nH (l:=D) (by unfold lev at ld;simp at ld;omega);have G:=F.agr (by simp);have e1:=G 0 1 b a _ _ (by decide) rfl rfl gb ga;have e2:=G 0 2 c a _ _ (by decide) rfl rfl gc ga;have e3:=G 1 2 c b _ _ (by decide) rfl rfl gc gb;have e4:=G 0 3 d a _ _ (by decide) rfl rfl gd ga;have e5:=G 1 3 d b _ _ (by decide) rfl rfl gd gb;have e6:=G 2 3 d c _ _ (by decide) rfl rfl gd gc;simp at e1 e2 e3 e4 e5 e6;subst e1 e2 e3 e4 e5 e6;show(0:Int)+sg 0*P9 (xs.getD a.toNat []) e+sg 1*P9 (xs.getD b.toNat []) e+sg 2*P9 (xs.getD c.toNat []) e+sg 3*P9 (xs.getD d.toNat []) e=0;rw[ha,hb,hc,hd,GO,GO,GO,GO];simp[sg];omega
end Hb
namespace Hb
open PySem L2
def Ta(n:Int)(i:Nat):Int:=if (i:Int)%2=0 then n else -n
def Jb(ms:Ms)(fs:List Int)(n:Int):Nat->Ms
 | 0=>ms
 | i+1=>E4 (Jb ms fs n i) (fs.getD i 0) (Ta n i)
def gF(ms:Ms)(fs:List Int)(n:Int):Ms:=Jb ms fs n fs.length
theorem Ys(ms:Ms)(fs:List Int)(n k:Int):∀i,Be (Jb ms fs n i) k=Be ms k+Dz fs k i*n
 | 0=>by simp[Jb,Dz]
 | i+1=>by
   show Be (E4 (Jb ms fs n i) (fs.getD i 0) (Ta n i)) k=_;rw[GW,Ys ms fs n k i];show _=Be ms k+(if fs.getD i 0=k then Dz fs k i+1-2*((i:Int)%2) else Dz fs k i)*n;by_cases h:k=fs.getD i 0
   . rw[if_pos h,if_pos h.symm]
     have e:Ta n i=(1-2*((i:Int)%2))*n:=by
      unfold Ta;have:(i:Int)%2=0\/(i:Int)%2=1:=by omega
      rcases this with z | z
      . rw[if_pos z,z];simp
      . rw[if_neg (by omega),z];omega
     rw[e,show Dz fs k i+1-2*((i:Int)%2)=Dz fs k i+(1-2*((i:Int)%2)) by omega,Int.add_mul];omega
   . rw[if_neg h,if_neg (fun z=>h z.symm)]
theorem U1{ms:Ms}(h:nd ms)(fs:List Int)(n:Int):∀i,nd (Jb ms fs n i)
 | 0=>h
 | i+1=>j5 (U1 h fs n i) _ _
theorem bO{ms:Ms}(h:nz ms)(fs:List Int)(n:Int):∀i,nz (Jb ms fs n i)
 | 0=>h
 | i+1=>eU (bO h fs n i) _ _
theorem Rq(ms:Ms)(fs:List Int)(n:Int):∀i,(Jb ms fs n i).length<=ms.length+i
 | 0=>qa8 _
 | i+1=>by
   have h1:=Rq ms fs n i;have h2:=Tv (Jb ms fs n i) (fs.getD i 0) (Ta n i);show(E4 _ _ _).length<=_;omega
theorem gO{fs:List Int}{k:Int}:∀{i},(List.range i).any (fun i=>decide (fs.getD i 0=k))=false->Dz fs k i=0
 | 0,_=>rfl
 | i+1,h=>by
   rw[qm1,List.any_append,qh8,qt4,qs4,Bool.or_eq_false_iff]at h;show(if fs.getD i 0=k then _ else Dz fs k i)=0;rw[if_neg (of_decide_eq_false h.2)];exact gO h.1
theorem MN(fs:List Int)(k:Int):∀i:Nat,-(i:Int)<=Dz fs k i/\Dz fs k i<=(i:Int)
 | 0=>by simp[Dz]
 | i+1=>by
   have h:=MN fs k i;show _<=(if fs.getD i 0=k then _ else Dz fs k i)/\(if fs.getD i 0=k then _ else Dz fs k i)<=_;have:(i:Int)%2=0\/(i:Int)%2=1:=by omega
   split<;>omega
def gM(xs:LLInt)(k p n:Int):Bool:=B8 xs (.int p) k&&decide (¬n=0)
def C5(xs:LLInt)(k:Int)(ms:Ms):Bool:=ms.all fun p=>gM xs k p.1 p.2
def Jt(xs:LLInt)(ms:Ms):Nat->Ms
 | 0=>[]
 | i+1=>gF (Jt xs ms i) (xs.getD (ms.getD i (0,0)).1.toNat []) (ms.getD i (0,0)).2
def Bi(xs:LLInt)(ms:Ms):Ms:=Jt xs ms ms.length
theorem Ie{xs:LLInt}(h4:∀x∈xs,x.length<=4)(ms:Ms):∀i,(Jt xs ms i).length<=4*i
 | 0=>qa8 _
 | i+1=>by
   have h1:=Ie h4 ms i;show(gF _ _ _).length<=_;unfold gF;have h2:=Rq (Jt xs ms i) (xs.getD (ms.getD i (0,0)).1.toNat []) (ms.getD i (0,0)).2 (xs.getD (ms.getD i (0,0)).1.toNat []).length
   have h3:(xs.getD (ms.getD i (0,0)).1.toNat []).length<=4:=by
    rcases Mv (l:=xs) (i:=(ms.getD i (0,0)).1.toNat) (d:=[]) with z | z
    . exact h4 _ z
    . rw[z];exact qb6 _
   omega
def Sm{xs:LLInt}{p l:Int}(h:B8 xs (.int p) l=true):0<=p/\p<(xs.length:Int):=by
 have h':(decide (0<=p)&&decide (p<(xs.length:Int))&&decide (Ca (xs.getD p.toNat []).length=l))=true:=h;rw[qb4,qb4]at h';exact⟨qc9 h'.1.1,qc9 h'.1.2⟩
def Ku(b:Addr)(H H1:Hp):Prop:=∀c q,c≠b->H c=some q->H1 c=some q
section
variable{K:W.Frag}{H H1:Hp}{b:Addr}{m:List (Key × V)}
def SqL.x(s:Ku b H H1)(hb:H b=some (.dK m)){a:Addr}{xs:List V}(h:SqL K H a xs):SqL K H1 a xs:=by
 rcases h with(h|⟨o,h⟩) | h
 . exact .inl (.inl (s _ _ (fun z=>by rw[z,hb]at h;cases h) h))
 . exact .inl (.inr ⟨o,s _ _ (fun z=>by rw[z,hb]at h;cases h) h⟩)
 . exact .inr h
def Fw.x(s:Ku b H H1)(hb:H b=some (.dK m)){a:Addr}{xs:List V}(h:Fw K H a xs):Fw K H1 a xs:=by
 rcases h with(h|⟨o,h⟩) | h
 . exact .inl (.inl (s _ _ (fun z=>by rw[z,hb]at h;cases h) h))
 . exact .inl (.inr ⟨o,s _ _ (fun z=>by rw[z,hb]at h;cases h) h⟩)
 . exact .inr h
mutual
theorem Rep.x(s:Ku b H H1)(hb:H b=some (.dK m)){v:V}{d:L2.D}(h:Rep K H v d):Rep K H1 v d:=by
 cases d with
 | non=>exact h
 | bl b=>exact h
 | int i=>exact h
 | str x=>exact h
 | tup ds =>
   obtain⟨a,vs,e,q,r⟩:=h;exact⟨a,vs,e,Fw.x s hb q,Reps.x s hb r⟩
 | lst ds =>
   obtain⟨a,vs,e,q,r⟩:=h;exact⟨a,vs,e,SqL.x s hb q,Reps.x s hb r⟩
theorem Reps.x(s:Ku b H H1)(hb:H b=some (.dK m)){vs:List V}{ds:List L2.D}(h:Reps K H vs ds):Reps K H1 vs ds:=by
 cases ds with
 | nil=>exact h
 | cons d r =>
   obtain⟨v,q,e,h1,h2⟩:=h;exact⟨v,q,e,Rep.x s hb h1,Reps.x s hb h2⟩
end
end
section
variable(K:W.Frag)
def K4:Sp:=fun vs H Q _=>∃(a:Addr) (v:V) (ms:Ms) (fs:List Int) (n:Int),vs=[.ref a,v,.int n]/\H a=some (.dK (cK ms))/\TI K H v fs/\ms.length+fs.length<=100000 ∧
 ∀H',Ku a H H'->H' a=some (.dK (cK (gF ms fs n)))->Q .non H'
end
end Hb
namespace Hb
open PySem L2
noncomputable def wF(φ:Int->Int)(ms:Ms):Int:=(ms.map fun p=>p.2*φ p.1).sum
def Fz(φ:Int->Int):wF φ []=0:=rfl
def Cj(φ:Int->Int)(p:Int × Int)(ms:Ms):wF φ (p::ms)=p.2*φ p.1+wF φ ms:=by
 unfold wF;rw[qc6,List.sum_cons]
def Ko(k:Int):Be [] k=0:=rfl
theorem GH(φ:Int->Int)(k:Int):∀{ms:Ms},nd ms->wF φ (Fy ms k)=wF φ ms-Be ms k*φ k
 | [],_=>by show(0:Int)=0-Be [] k*φ k;rw[Ko];simp
 | p::ms,h=>by
   unfold nd at h;rw[qc6,qf4]at h;have ih:=GH φ k (ms:=ms) h.2;rw[Gg,Cj];by_cases e:p.1=k
   . rw[if_pos e];have hd:Fy (p::ms) k=Fy ms k:=by unfold Fy;rw[qm4 (by simpa using e)]
     have hg:Be ms k=0:=Kn (by rw[←e];exact h.1);rw[hd,ih,hg,←e,Int.zero_mul];omega
   . rw[if_neg e];have hd:Fy (p::ms) k=p::Fy ms k:=by unfold Fy;rw[qp3 (by simpa using e)]
     rw[hd,Cj,ih];omega
def Qu(φ:Int->Int)(as bs:Ms):wF φ (as++bs)=wF φ as+wF φ bs:=by
 unfold wF;rw[qb1,List.sum_append]
theorem lI(φ:Int->Int)(k v:Int):∀{ms:Ms},nd ms->k∈ms.map (·.1)->wF φ (ms.map fun p=>if p.1=k then(p.1,v) else p)=wF φ ms+(v-Be ms k)*φ k
 | [],_,h=>by simp at h
 | p::ms,h,hk=>by
   unfold nd at h;rw[qc6,qf4]at h;rw[qc6,Cj,Cj,Gg];by_cases e:p.1=k
   . rw[if_pos e,if_pos e]
     have same:(ms.map fun p=>if p.1=k then(p.1,v) else p)=ms:=by
      conv=>rhs;rw[←List.map_id ms]
      apply qg4;intro q hq;have:¬q.1=k:=fun z=>h.1 (by rw[e,←z];exact qg3 (f:=(·.1)) hq);rw[if_neg this];rfl
     rw[same,e,Int.sub_mul];show v*φ k+wF φ ms=_;omega
   . rw[if_neg e,if_neg e]
     have hk2:k∈ms.map (·.1):=by
      rw[qc6,qc0]at hk;rcases hk with z | z
      . exact absurd z.symm e
      . exact z
     rw[lI φ k v h.2 hk2];omega
def tM(φ:Int->Int){ms:Ms}(h:nd ms)(k v:Int):wF φ (putI ms k v)=wF φ ms+(v-Be ms k)*φ k:=by
 by_cases hk:k∈ms.map (·.1)
 . unfold putI;rw[if_pos (T3.mpr hk),lI φ k v h hk]
 . rw[put_new hk,Qu,Kn hk,Cj,Fz];simp
def dO(φ:Int->Int){ms:Ms}(h:nd ms)(k n:Int):wF φ (E4 ms k n)=wF φ ms+n*φ k:=by
 unfold E4;split
 . rename_i e
   rw[GH φ k h];have:Be ms k=-n:=by omega
   rw[this,Int.neg_mul];omega
 . rw[tM φ h,show Be ms k+n-Be ms k=n by omega]
theorem AL(φ:Int->Int){ms:Ms}(h:nd ms)(fs:List Int)(n:Int):∀i,wF φ (Jb ms fs n i)=wF φ ms+n*aN (fun j=>sg j*φ (fs.getD j 0)) i
 | 0=>by show wF φ ms=wF φ ms+n*0;simp
 | i+1=>by
   show wF φ (E4 (Jb ms fs n i) (fs.getD i 0) (Ta n i))=wF φ ms+n*(aN _ i+sg i*φ (fs.getD i 0));rw[dO φ (U1 h fs n i),AL φ h fs n i,Int.mul_add]
   have e:Ta n i=n*sg i:=by
    unfold Ta sg;have:(i:Int)%2=0\/(i:Int)%2=1:=by omega
    rcases this with z | z
    . rw[if_pos z,z];simp
    . rw[if_neg (by omega),z];omega
   rw[e,qs2];omega
theorem Et(xs:LLInt)(ms:Ms):∀i,nd (Jt xs ms i)
 | 0=>qi7
 | i+1=>U1 (Et xs ms i) _ _ _
theorem Ir(xs:LLInt)(ms:Ms):∀i,nz (Jt xs ms i)
 | 0=>fun p hp=>by cases hp
 | i+1=>bO (Ir xs ms i) _ _ _
def face(xs:LLInt)(φ:Int->Int)(p:Int):Int:=aN (fun j=>sg j*φ ((xs.getD p.toNat []).getD j 0)) (xs.getD p.toNat []).length
theorem aL(φ:Int->Int)(xs:LLInt)(ms:Ms):∀i,i<=ms.length->wF φ (Jt xs ms i)=wF (face xs φ) (ms.take i)
 | 0,_=>rfl
 | i+1,h=>by
   show wF φ (gF (Jt xs ms i) _ _)=_;unfold gF;rw[AL φ (Et xs ms i),aL φ xs ms i (by omega),qf0,qa0 (by omega),Qu];have e:ms.getD i (0,0)=ms[i]:=by rw[qa5,qa0 (by omega)];rfl
   rw[e];show _+_=_+wF _ [ms[i]];rw[Cj,Fz];unfold face;omega
def gI(φ:Int->Int)(xs:LLInt)(ms:Ms):wF φ (Bi xs ms)=wF (face xs φ) ms:=by
 unfold Bi;rw[aL φ xs ms _ (qa8 _),qb9]
def dl(e k:Int):Int:=if k=e then 1 else 0
theorem T7(e:Int):∀{ms:Ms},nd ms->wF (dl e) ms=Be ms e
 | [],_=>rfl
 | p::ms,h=>by
   unfold nd at h;rw[qc6,qf4]at h;rw[Cj,Gg,T7 e h.2];unfold dl;by_cases z:p.1=e
   . rw[if_pos z,if_pos z,Kn (by rw[←z];exact h.1)];omega
   . rw[if_neg z,if_neg z];omega
theorem rK(xs:LLInt)(e p:Int):face xs (dl e) p=P9 (xs.getD p.toNat []) e:=by
 have:∀(fs:List Int) (i:Nat),aN (fun j=>sg j*dl e (fs.getD j 0)) i=Dz fs e i:=by
  intro fs i
  induction i with
  | zero=>rfl
  | succ i ih =>
    show aN _ i+sg i*dl e (fs.getD i 0)=if fs.getD i 0=e then Dz fs e i+1-2*((i:Int)%2) else Dz fs e i
    rw[ih];unfold dl sg;split<;>omega
 exact this _ _
def Iy{xs:LLInt}{ms:Ms}(e:Int):Be (Bi xs ms) e=wF (fun p=>P9 (xs.getD p.toNat []) e) ms:=by
 have h:=T7 e (Et xs ms ms.length);change wF (dl e) (Bi xs ms)=Be (Bi xs ms) e at h;rw[←h];rw[gI];unfold wF
 congr 1
 apply qg4;intro p _;rw[rK]
theorem Pq{φ:Int->Int}:∀{ms:Ms},(∀p∈ms,φ p.1=0)->wF φ ms=0
 | [],_=>rfl
 | p::ms,h=>by
   rw[Cj,h p (qb2 ..),Pq fun q hq=>h q (qb0 _ hq)];simp
noncomputable abbrev Bt(xs:LLInt)(p:Int):List Int:=xs.getD p.toNat []
def oX(xs:LLInt)(e p:Int):Int:=P9 (Bt xs p) e
theorem Zp(φ:Int->Int):∀(ns ms:Ms),nd ms->wF φ (Cn ms ns)=wF φ ms+wF φ ns
 | [],ms,_=>by show wF φ ms=wF φ ms+wF φ [];rw[Fz];omega
 | p::ns,ms,h=>by
   show wF φ (Cn (E4 ms p.1 p.2) ns)=_;rw[Zp φ ns _ (j5 h _ _),dO φ h,Cj];omega
theorem AK(φ:Int->Int)(n:Int):∀ms:Ms,wF φ (ms.map fun p=>(p.1,n*p.2))=n*wF φ ms
 | []=>by rw[qj1,Fz];simp
 | p::ms=>by rw[qc6,Cj,Cj,AK φ n ms,Int.mul_add,qs2]
def T6(φ:Int->Int)(n:Int)(ms:Ms):wF φ (Bw n ms)=n*wF φ ms:=by
 unfold Bw;split
 . rename_i h;rw[h,Fz];simp
 . exact AK φ n ms
theorem LH{φ:Int->Int}{p:Int}:∀{ms:Ms},nd ms->(∀q∈ms,q.1≠p->φ q.1=0)->wF φ ms=Be ms p*φ p
 | [],_,_=>by rw[Fz,Ko];simp
 | q::ms,h,hz=>by
   unfold nd at h;rw[qc6,qf4]at h;rw[Cj,Gg];by_cases e:q.1=p
   . rw[if_pos e];have:wF φ ms=0:=Pq fun r hr=>hz r (qb0 _ hr) fun z=>h.1 (by rw[e,←z];exact qg3 (f:=(·.1)) hr);rw[this,e];omega
   . rw[if_neg e,hz q qb2 e,LH h.2 fun r hr=>hz r (qb0 _ hr)];simp
def Tt{fs:List Int}{e:Int}(h:e ∉ fs):P9 fs e=0:=by
 unfold P9;refine gO ?_;rw[qo6];intro i hi;have hi:=qe6.mp hi;simp only[qk2];intro z;rw[qa5,qa0 hi]at z;exact h (by rw[←z];exact qc7 hi)
structure L4(xs:LLInt)(ks:List Int)(ch left fill:Ms):Prop where
 ndl:nd left
 nzl:nz left
 ndf:nd fill
 nzf:nz fill
 out:∀q,q ∉ ks->Be left q=0
 rnd:∀e,wF (oX xs e) left=0
 sum:∀e,Be left e+wF (oX xs e) fill=Be ch e
def L4.step{xs:LLInt}{ks:List Int}{ch left fill eg:Ms}{f p c:Int}(h:L4 xs ks ch left fill)(heg:nd eg)(hget:∀e,Be eg e=oX xs e p)(htw:∀e,wF (oX xs e) eg=0)
 (hc:oX xs f p=c) (hcc:c*c=1) (hp:oX xs p p=0) (Ae8:∀q∈ks,q≠p->oX xs f q=0) (hin:∀q,q ∉ ks->oX xs q p=0) :
 L4 xs (ks.filter fun q=>decide (q≠f)&&decide (q≠p)) ch (Cn left (Bw (-(Be left f*c)) eg)) (Cn fill (Bw (Be left f*c) [(p,1)])):=by
 have nt:∀m:Int,nd (Bw m eg):=fun m=>by
  unfold Bw;split
  . exact qi7
  . unfold nd;rw[qh9];exact heg
 have gt:∀m e:Int,Be (Bw m eg) e=m*oX xs e p:=fun m e=>by
  rw[←hget e,←T7 e (nt m),T6,T7 e heg]
 have ng:∀m:Int,nd (Bw m [(p,1)]):=fun m=>by
  unfold Bw;split
  . exact qi7
  . simp[nd]
 obtain⟨a1,a2,_,a4⟩:=b4 (Bw (-(Be left f*c)) eg) left h.ndl h.nzl (nt _);obtain⟨b1,b2,_,_⟩:=b4 (Bw (Be left f*c) [(p,1)]) fill h.ndf h.nzf (ng _)
 have lp:Be left p=0:=by
  have hr:=h.rnd f;rw[LH (p:=p) h.ndl fun q hq hne=>?_,hc]at hr
  . have:Be left p*c*c=0:=by rw[hr];simp
    rw[qs2,hcc]at this;omega
  . by_cases hf:q.1∈ks
    . exact Ae8 q.1 hf hne
    . have h0:=h.out q.1 hf;have:Be left q.1=q.2:=by unfold Be;rw[Mx h.ndl hq];rfl
      exact absurd (this.symm.trans h0) (h.nzl q hq)
 refine⟨a1,a2,b1,b2,fun q hq=>?_,fun e=>?_,fun e=>?_⟩
 . rw[a4,gt];by_cases hk:q∈ks;rotate_left
   . rw[h.out q hk,hin q hk];simp
   have hq:q=f\/q=p:=by
    by_cases e1:q=f
    . exact .inl e1
    . by_cases e2:q=p
      . exact .inr e2
      . exact absurd (qg1.mpr ⟨hk,by simp[e1,e2]⟩) hq
   rcases hq with hq | hq
   . subst hq;rw[hc,Int.neg_mul,qs2,hcc];omega
   . subst hq;rw[lp,hp];simp
 . rw[Zp _ _ _ h.ndl,T6,h.rnd e,htw e];simp
 . rw[a4,gt,Zp _ _ _ h.ndf,T6,Cj,Fz];have:=h.sum e;simp only[Int.one_mul,Int.add_zero];rw[Int.neg_mul];omega
theorem Tz{fs:List Int}{e:Int}(h:Fr fs e=1):P9 fs e*P9 fs e=1:=by
 have key:∀i,i<=fs.length->(Fr (fs.take i) e=0->Dz fs e i=0)/\(Fr (fs.take i) e=1->Dz fs e i=1\/Dz fs e i=-1):=by
  intro i
  induction i with
  | zero=>intro _;exact⟨fun _=>rfl,fun z=>by simp[Fr]at z⟩
  | succ i ih =>
    intro hi;obtain⟨i0,i1⟩:=ih (by omega);have hx:fs[i]?=some fs[i]:=qa0 (by omega);have eg:fs.getD i 0=fs[i]:=by rw[qa5,hx];rfl
    have ec:Fr (fs.take (i+1)) e=Fr (fs.take i) e+(if fs[i]=e then 1 else 0):=by
     unfold Fr;rw[qf0,hx,List.countP_append];by_cases z:fs[i]=e<;>simp[z]
    have eo:Dz fs e (i+1)=Dz fs e i+(if fs[i]=e then(if i%2=0 then 1 else -1) else 0):=by
     show(if fs.getD i 0=e then Dz fs e i+1-2*((i:Int)%2) else Dz fs e i)=_;rw[eg];by_cases z:fs[i]=e
     . rw[if_pos z,if_pos z];split<;>omega
     . rw[if_neg z,if_neg z];omega
    by_cases z:fs[i]=e
    . rw[if_pos z]at ec eo;refine⟨fun q=>by omega,fun q=>?_⟩;rw[eo,i0 (by omega)];split<;>simp
    . rw[if_neg z]at ec eo;rw[ec,eo];simpa using⟨i0,i1⟩
 have:=(key fs.length (qa8 _)).2 (by rw[qb9];exact h);unfold P9;rcases this with z | z<;>rw[z]<;>rfl
def K8{xs:LLInt}(h:B0 xs){i:Nat}{x:List Int}(hx:xs[i]?=some x){f:Int}(hf:f∈x):0<=f/\f<(i:Int):=by
 have F:=h i x hx;obtain⟨q,h1,_⟩:=F.bel f hf;have:=(qa2.mp h1).1;rw[qc4]at this;have:=F.low f hf;omega
theorem Ru{xs:LLInt}{f:Int}:∀{ks:List Int}{q:Int},q∈ks->Fr (Bt xs q) f<=(Dv xs ks f).length
 | k::ks,q,h=>by
   have e:Dv xs (k::ks) f=List.replicate (Fr (Bt xs k) f) k++Dv xs ks f:=rfl;rw[e,qd1,qm9];rcases qc0.mp h with z | z
   . rw[z];omega
   . have:=Ru (xs:=xs) (f:=f) z;omega
def Yp{xs:LLInt}{f:Int}{ks:List Int}{q:Int}(h:q∈Dv xs ks f):1<=Fr (Bt xs q) f:=by
 obtain⟨k,_,hk⟩:=List.mem_flatMap.mp h;obtain⟨h1,h2⟩:=List.mem_replicate.mp hk;rw[h2];show 1<=Fr (xs.getD k.toNat []) f;omega
def Cv(xs:LLInt):LLInt->Ms->Ms->Ms × Ms
 | [],l,fi=>(l,fi)
 | p::ps,l,fi=>Cv xs ps (Cn l (Bw (-(Be l (p.getD 0 0)*Be (Bi xs [(p.getD 1 0,1)]) (p.getD 0 0))) (Bi xs [(p.getD 1 0,1)]))) (Cn fi (Bw (Be l (p.getD 0 0)*Be (Bi xs [(p.getD 1 0,1)]) (p.getD 0 0)) [(p.getD 1 0,1)]))
def lX{xs:LLInt}(hs:B0 xs){n:Nat}(hn:n=xs.length){fl:Int->Bool}{ch left fill:Ms}{p:List Int}{r:LLInt}(hc:Xv xs (At n fl))(h:L4 xs (At n fl) ch left fill)(hb:Gx xs (At n fl)=p::r) :
 L4 xs (At n (without fl p)) ch (Cn left (Bw (-(Be left (p.getD 0 0)*Be (Bi xs [(p.getD 1 0,1)]) (p.getD 0 0))) (Bi xs [(p.getD 1 0,1)]))) (Cn fill (Bw (Be left (p.getD 0 0)*Be (Bi xs [(p.getD 1 0,1)]) (p.getD 0 0)) [(p.getD 1 0,1)]))/\Xv xs (At n (without fl p)):=by
 obtain⟨f,hf,hg,rfl,hq⟩:=Pk (show p∈Gx xs (At n fl) by rw[hb];exact qb2);refine⟨?_,Sr hc hg⟩;have PL:=hg;unfold Jo at PL;rw[qb4]at PL;have l1:=qc9 PL.1;obtain⟨q0,e0⟩:=qm5.mp l1;have e1:(Mp xs (At n fl) f).getD 0 0=f:=rfl
 have e2:(Mp xs (At n fl) f).getD 1 0=q0:=by
  show(Dv xs (At n fl) f).getD 0 0=q0;rw[e0];rfl
 rw[Hs,e1,e2];rw[e2]at hq;obtain⟨⟨q1,q2⟩,_⟩:=Mu.mp hq;have hi:q0.toNat<xs.length:=by omega
 have hx:xs[q0.toNat]?=some (Bt xs q0):=by
  rw[qa0 hi];show _=some (xs.getD q0.toNat []);rw[qa5,qa0 hi];rfl
 have hc1:Fr (Bt xs q0) f=1:=by
  have a:=Ru (xs:=xs) (f:=f) hq;have b:=Yp (xs:=xs) (f:=f) (ks:=At n fl) (q:=q0) (by rw[e0];exact qb7.mpr rfl);omega
 have hget:∀e,Be (Bi xs [(q0,1)]) e=oX xs e q0:=fun e=>by
  rw[Iy,Cj,Fz];show 1*oX xs e q0+0=_;omega
 rw[hget f];refine h.step (Et xs _ _) hget (fun e=>?_) rfl (Tz hc1) ?_ ?_ ?_
 . rw[gI,Cj,Fz];have:=WU hs hx e;show 1*face xs (oX xs e) q0+0=0;unfold face;show 1*aN (fun j=>sg j*P9 (xs.getD ((Bt xs q0).getD j 0).toNat []) e) (Bt xs q0).length+0=0;rw[this];rfl
 . refine Tt fun z=>?_;have:=K8 hs hx z;omega
 . intro q hk hne;refine Tt fun z=>hne ?_;have:=Ro hk z;rw[e0]at this;exact qb7.mp this
 . intro q hk;exact Tt fun z=>hk (hc q0 hq q z)
theorem X7{xs:LLInt}(hs:B0 xs){n:Nat}(hn:n=xs.length){ch:Ms}:∀(m:Nat) (fl:Int->Bool) (acc:LLInt) (left fill:Ms),Xv xs (At n fl)->L4 xs (At n fl) ch left fill →
 ∃more,(D6 xs n m fl acc).2=acc++more/\L4 xs (At n (D6 xs n m fl acc).1) ch (Cv xs more left fill).1 (Cv xs more left fill).2
 | 0,fl,acc,left,fill,hc,h=>⟨[],by simp[D6],h⟩
 | m+1,fl,acc,left,fill,hc,h=>by
   cases hb:Gx xs (At n fl) with
   | nil =>
     rw[Qi hb];exact⟨[],by simp,h⟩
   | cons p r =>
     rw[Ob hb];obtain⟨h1,h2⟩:=lX hs hn hc h hb;obtain⟨more,a,b⟩:=X7 hs hn m (without fl p) (acc++[p]) _ _ h2 h1;exact⟨p::more,by rw[a];simp,b⟩
end Hb
namespace L2
open PySem PySem.Spec PyProof.Rows
inductive DA where
 | d (d:D) | dic
def YX(K:W.Frag)(H:Hp)(v:V):DA->Prop
 | .d d=>Rep K H v d
 | .dic=>∃a kvs,v=.ref a/\Rd H a (.dK kvs)
def isA(n:String):DA->Bool
 | .d d=>FJ n d
 | .dic=>n=="dict"
theorem Za{X:Cx}{K:W.Frag}(hK:X.K=K:=by rfl):CallR X (.builtin "isinstance") (fun xs H Q=>∃x n d,xs=[x,.ty n]/\(n="int"\/n="bool"\/n="str"\/n="tuple"\/n="list"\/n="dict")/\YX K H x d/\Q (.bl (isA n d)) H):=by
 subst hK;intro Ac s σ H xs us Q I r h;obtain⟨x,n,d,e,hn,hx,q⟩:=h;cases d with
 | d d=>exact No Ac s σ H xs us Q I r ⟨x,n,d,e,hn,hx,q⟩
 | dic =>
   subst e;obtain⟨a,kvs,rfl,hr⟩:=hx;obtain⟨u,v,rfl,rx,rt⟩:=Op r;cases rt;cases rx;obtain⟨z,hd,vs,rel,o,es,ep,ho,ex,_⟩:=Nl I.hok hr;rcases hn with rfl | rfl | rfl | rfl | rfl | rfl
   . exact PySem.IsiPair.dict_int ho ex.1 ⟨.bl false,H,I.tok _,rfl,q⟩
   . exact PySem.IsiPair.dict_bool ho ex.1 ⟨.bl false,H,I.tok _,rfl,q⟩
   . exact PySem.IsiPair.dict_str ho ex.1 ⟨.bl false,H,I.tok _,rfl,q⟩
   . exact PySem.IsiPair.dict_tuple ho ex.1 ⟨.bl false,H,I.tok _,rfl,q⟩
   . exact PySem.IsiPair.dict_list ho ex.1 ⟨.bl false,H,I.tok _,rfl,q⟩
   . exact PySem.IsiPair.dict_dict ho ex.1 ⟨.bl true,H,I,rfl,q⟩
section
variable{X:Cx}{Ac:LAObj}{σ:St}{H:Hp}{s:Shared}
end
inductive DE where
 | d (d:D) | nul
inductive TH where
 | one (e:DE) | rows (es:List DE)
def wG(K:W.Frag)(H:Hp)(v:V):DE->Prop
 | .d d=>Rep K H v d
 | .nul=>∃a,v=.ref a/\Rd H a (.dK [])
def sZ(K:W.Frag)(H:Hp):List V->List DE->Prop
 | [],[]=>True
 | v::vs,e::es=>wG K H v e/\sZ K H vs es
 | _,_=>False
def Al4(K:W.Frag)(H:Hp)(v:V):TH->Prop
 | .one e=>wG K H v e
 | .rows es=>∃a vs,v=.ref a/\SqL K H a vs/\sZ K H vs es
def isE(n:String):DE->Bool
 | .d d=>FJ n d
 | .nul=>n=="dict"
def isT(n:String):TH->Bool
 | .one e=>isE n e
 | .rows _=>n=="list"
section
variable{X:Cx}{K:W.Frag}
theorem kR(hK:X.K=K:=by rfl):CallR X (.builtin "isinstance") (fun xs H Q=>∃x n t,xs=[x,.ty n]/\(n="int"\/n="bool"\/n="str"\/n="tuple"\/n="list"\/n="dict")/\Al4 K H x t/\Q (.bl (isT n t)) H):=by
 subst hK;intro Ac s σ H xs us Q I r h;obtain⟨x,n,t,e,hn,hx,q⟩:=h
 match t,hx,q with
 | .one (.d d),hx,q=>exact No Ac s σ H xs us Q I r ⟨x,n,d,e,hn,hx,q⟩
 | .one .nul,hx,q =>
   obtain⟨a,e2,hr⟩:=hx;exact Za (K:=X.K) rfl Ac s σ H xs us Q I r ⟨x,n,.dic,e,hn,⟨a,[],e2,hr⟩,q⟩
 | .rows es,hx,q =>
   subst e;obtain⟨a,vs,rfl,hq,_⟩:=hx;obtain⟨u,v,rfl,rx,rt⟩:=Op r;cases rt;cases rx;obtain⟨its,_,⟨o,_,e,c,_⟩,_⟩:=I.list hq;have k:=NI (K:=X.K) (d:=.lst []) hn;exact qk0 PySem.W.kitx_list I.kIn ⟨o,e,c⟩ k (fun z=>nomatch z) fun tk=>⟨.bl (n=="list"),H,I.tok tk,rfl,q⟩
end
section
variable{X:Cx}{Ac:LAObj}{σ:St}{H:Hp}{s:Shared}
end
structure Fin(B k:Nat)(p:PyData):Prop where
 sh:p.showable=true
 le:p.shown.length<=B
 dp:p.depth<=k
section
variable{prog:Program}{w:World}{A:Around}{E:Value->Shared->Prop}
end
section
variable{prog:Program}{w:World}{A:Around}{R:Result->Shared->Prop}
end
def KW(a:Value):argsOk "max" ⟨[a],[]⟩:=by unfold argsOk;kernel_rfl
section
variable{prog:Program}{w:World}{A:Around}{R:Result->Shared->Prop}
theorem JL{I S:Addr}{fp:List Addr}{n:Nat}{P:Nat->Value->Prop}{St:Nat->Heap->Prop}(W:Walks prog w A.in1 I fp [I] n P St)(hSf:S ∉ fp)(hSI:S≠I)(ks:List Int)(hn:ks.length=n)(hn0:0<n)(hP:∀i v,P i v->∃x t,ks[i]?=some x/\v=.int x t) :
 ∀(k i:Nat) (s:Shared) (c:Nat) (best:Array Value),n-i=k->i<=n->St i s.heap->s.heap.get? S=some { cls:=.type "list",dict:=none,data:=.seq best c,slots:=#[] } →
 ((i=0/\best=#[])\/∃m t,best=#[.int m t,.int m t]/\0<i/\m∈ks.take i/\∀x∈ks.take i,x<=m) →
 (∀m t h' tk,m∈ks->(∀x∈ks,x<=m)->(∀b o,b≠I->b≠S->s.heap.get? b=some o->h'.get? b=some o)->R (.ok (.ret (.int m t))) { s with heap:=h',toks:=tk }) →
 codeAny (model prog w) A (.builtin "max.loop" ⟨[.ref I,.none,.ref S],[]⟩) R s:=by
 have hname:(toString "max"++toString ".loop":String)="max.loop":=by decide
 intro k
 induction k with
 | zero =>
   intro i s c best hk hi hst hS hb hR;have hin:i=n:=by omega
   subst hin;refine codeAny_builtin PySem.F.entry_max_loop ?_;rw[qj6 qi3 _];show wpAny _ A.in1 (seqItems? (.ref S)>>=_) _ _ s;refine qa1 (ql9 hS rfl ?_);show wpAny _ A.in1 (tryCatch (pyNext (.ref I)) _>>=_) _ _ s;skip;refine qa1 (ql8 (W.done s _ _ hst fun h' tk hk'=>?_));have hS':=hk' S _ (by simpa using hSI) hS;rcases hb with⟨h0,rfl⟩|⟨m,t,rfl,_,hm1,hm2⟩
   . omega
   . show wpAny _ A.in1 (updateSeq S (fun _=>#[])>>=_) _ _ _;refine qa1 ?_;refine qm8 hS' rfl (qa1 (qk7 (qa6 ?_)));rw[←hn,qb9]at hm1 hm2;exact hR m t _ tk hm1 hm2 fun b o Ti Ve e=>(qe7 _ _ (Ne.symm Ve)).trans (hk' b o (by simpa using Ti) e)
 | succ k ih =>
   intro i s c best hk hi hst hS hb hR;have hlt:i<n:=by omega
   refine codeAny_builtin PySem.F.entry_max_loop ?_;rw[qj6 qi3 _];show wpAny _ A.in1 (seqItems? (.ref S)>>=_) _ _ s;refine qa1 (ql9 hS rfl ?_);show wpAny _ A.in1 (tryCatch (pyNext (.ref I)) _>>=_) _ _ s;skip;refine qa1 (ql8 (W.item i s _ _ hlt hst fun v h' tk hPv NR hk'=>?_));have hS':=hk' S _ (by simpa using hSI) hS;obtain⟨n1,t1,hx,rfl⟩:=hP i v hPv;have htk:ks.take (i+1)=ks.take i++[n1]:=by rw[qf1,hx];rfl
   have wU:∀f:Array Value->Array Value,St (i+1) (h'.update S (Obj.mapSeq f)):=fun f=>W.frame _ _ _ NR fun b hb o e=>(qe7 _ _ (fun z:S=b=>hSf (by rw[z];exact hb))).trans e;have old:∀(f:Array Value->Array Value) (b:Addr) (o:Obj),b≠I->b≠S->s.heap.get? b=some o->(h'.update S (Obj.mapSeq f)).get? b=some o:=fun f b o Ti Ve e=>(qe7 _ _ (Ne.symm Ve)).trans (hk' b o (by simpa using Ti) e);rcases hb with⟨h0,rfl⟩|⟨n2,t2,rfl,hi0,hm1,hm2⟩
   . show wpAny _ A.in1 (updateSeq S (fun _=>#[.int n1 t1,.int n1 t1])>>=_) _ _ _;refine qa1 ?_;refine qm8 hS' rfl ?_;rw[hname];subst h0;refine qa6 ⟨plainId_quiet qi3 _,ih 1 _ _ #[.int n1 t1,.int n1 t1] (by omega) hlt (wU _) (qf9 _ hS' rfl) (.inr ⟨n1,t1,rfl,by omega,by rw[htk];simp,fun x hx'=>?_⟩) fun m t h'' tk' a1 a2 kk=>?_⟩
     . rw[htk]at hx';simp at hx';omega
     . exact hR m t h'' tk' a1 a2 fun b o Ti Ve e=>kk b o Ti Ve (old _ b o Ti Ve e)
   . show wpAny _ A.in1 (tryCatch (holding [.int n1 t1,.int n1 t1] (richCompare .Gt (.int n1 t1) (.int n2 t2)>>=_)) _>>=_) _ _ _;refine qa1 (ql8 (qf3 (qa1 (CmpOf.ints_gt (prog:=prog) (w:=w) (A:=A.in1) (P:=fun i v=>∃t,v=.int (if i=0 then n1 else n2) t) (fun i=>if i=0 then n1 else n2) (fun i v h=>h) 0 1 _ _ _ _ _ ⟨t1,rfl⟩ ⟨t2,rfl⟩ ?_))));refine qa1 (qf3 (qg8 ?_));refine qa1 (qk7 (qa6 ?_));split
     . next hgt =>
       have vK:n2<n1:=by simpa using hgt
       refine qa1 ?_;refine qm8 hS' rfl (qa1 (qk7 ?_));rw[hname];refine qa6 ⟨plainId_quiet qi3 _,ih (i+1) _ _ #[.int n1 t1,.int n1 t1] (by omega) hlt (wU _) (qf9 _ hS' rfl) (.inr ⟨n1,t1,rfl,by omega,by rw[htk];simp,fun x hx'=>?_⟩) fun m t h'' tk' a1 a2 kk=>?_⟩
       . rw[htk]at hx';rcases qd6.mp hx' with h1 | h1
         . have:=hm2 x h1;omega
         . simp at h1;omega
       . exact hR m t h'' tk' a1 a2 fun b o Ti Ve e=>kk b o Ti Ve (old _ b o Ti Ve e)
     . next hgt =>
       have vK:n1<=n2:=by simpa using hgt
       refine qa1 (qk7 ?_);rw[hname];refine qa6 ⟨plainId_quiet qi3 _,ih (i+1) _ _ #[.int n2 t2,.int n2 t2] (by omega) hlt NR hS' (.inr ⟨n2,t2,rfl,by omega,by rw[htk];simp[hm1],fun x hx'=>?_⟩) fun m t h'' tk' a1 a2 kk=>?_⟩
       . rw[htk]at hx';rcases qd6.mp hx' with h1 | h1
         . exact hm2 x h1
         . simp at h1;omega
       . exact hR m t h'' tk' a1 a2 fun b o Ti Ve e=>kk b o Ti Ve (hk' b o (by simpa using Ti) e)
end
section
variable{P:Program}{w:World}{K:W.Frag}{mg:Str->Option Value}{base:Heap}{ds:List Value}
end
end L2
namespace L2
open PySem PySem.Spec PyProof.Rows PySem.W
section
variable{prog:Program}{w:World}{A:Around}{E:Value->Shared->Prop}{h:Heap}{g:Array GenState}{d:Drawn}{t:Nat}{os:OsState}{a C dx:Addr}{o:Obj}{K:Frag}{cd:ClassData}{mA:Str->Option Value}{v:Value}{name:Str}
def iB{tk:Tok}{Q:PySem.Fin->Shared->Prop}(X:K.In h)(hf:findIn K (.ref C) name=some none)(hcd:clsIn K C=some cd)(hh:cd.hasDict=true)(hx:h.get? a=some o)(hc:o.cls=.ref C)(hd:o.dict=some dx){vs:Array Value}(hdat:o.data=.fields vs)(hn:h.Ns dx mA)(hv:mA name=some v)(hq:Q (.done (.ret v)) ⟨h,g,d,t,os⟩) :
 wpAny (model prog w) A (Builtin.«object.__getattribute__» ⟨[.ref a,.str name tk],[]⟩) Q E ⟨h,g,d,t,os⟩:=by
 have L1:Looks (model prog w) h (typeLookup (.ref C) name) none:=looks_findIn X hf;have yZ:Looks (model prog w) h (classData C) cd:=looks_clsIn X hcd;obtain⟨oc,od,oda,osl⟩:=o;dsimp only at hc hd hdat;subst hc hd hdat
 repeat (any_goals (first | assumption | (with_reducible refine wpAny_nsGet hn ?_;rw[hv]) | with_reducible refine qe9 hx ?_ | with_reducible refine L1.at ?_ | with_reducible refine yZ.at ?_ | (rw[hh]) | wp_step))
end
end L2
namespace L2
open PySem PySem.Spec PyProof.Rows PySem.W PySem.Builtin PySem.Builtin.ObjectAttr
def w8:List Value:=[.type "ValueError",.type "Exception",.type "BaseException",.type "object"]
def AW(self:Value):refuseLoop self "__setattr__" w8=pure ():=by kernel_rfl
section
variable{prog:Program}{w:World}{A:Around}{K:Frag}{s:Shared}{x C D:Addr}{R:Result->Shared->Prop}
def iE{ox:Obj}{od:Option Obj}{name:Str}{tk:Tok}{v:Value}{cd:ClassData}(X:K.In s.heap)(I:InstAt s.heap x ox C od)(hc:clsIn K C=some cd)(hm:cd.mro=.ref C::.ref D::w8)(hf:findIn K (.ref C) name=some none)
 (h:wpAny (model prog w) A.in1 (storeInOwnDict (.ref x) (.ref C) (.str name tk) name v false) (fun fin s'=>match fin with | .done f=>R (.ok f) s' | .again c'=>c'.quiet=true/\codeAny (model prog w) A c' R s') (fun e s'=>R (.error e) s') s) :
 codeAny (model prog w) A (.call (.builtin "object.__setattr__") ⟨[.ref x,.str name tk,v],[]⟩) R s:=by
 have SF:=PySem.F.store_object;have sub:Looks (model prog w) s.heap (isInstance (.ref x) (.type "object")) true:=I.type.andThen (looks_mroIn X (by unfold mroIn;rw[hc,Option.bind_some,hm];rfl));refine codeAny_call_builtin SF.slot.plain SF.entry (@check_slot (model prog w) _ _ s "object.__setattr__" "object" "__setattr__" (.ref x) [.str name tk,v] [] _ SF.kind SF.split sub (SF.args (.ref x) (.str name tk) v) ?_);have hl:Looks (model prog w) s.heap (mroOf (.ref C)) cd.mro:=(looks_clsIn X hc).andThen .now;rw[osa_eq,refuse_eq];refine qa1 (qa1 (I.type.here (qa1 (hl.here ?_))));rw[hm,refuseLoop_ref,refuseLoop_ref,AW];exact qa6 (qa1 (I.type.here (qa1 ((looks_findIn X hf).here (qa1 (qa6 h))))))
end
section
variable{prog:Program}{w:World}{A:Around}{E:Value->Shared->Prop}{K:Frag}{s:Shared}{x C:Addr}
def AN{ox:Obj}{vs:Array Value}{name:Str}{tk:Tok}{v:Value}{cd:ClassData}{Q:PySem.Fin->Shared->Prop}(X:K.In s.heap)(hx:s.heap.get? x=some ox)(hcl:ox.cls=.ref C)(hd:ox.dict=none)(hf:ox.data=.fields vs)
 (hc:clsIn K C=some cd) (hh:cd.hasDict=true)
 (h:∀h' t',h'.get? x=some { ox with dict:=some s.heap.objs.size }->h'.Ns1 s.heap.objs.size (fun y=>if y=name then some v else none)->(∀b o,b≠x->s.heap.get? b=some o->h'.get? b=some o)->Q (.done (.ret .none)) { s with heap:=h',toks:=t' }) :
 wpAny (model prog w) A (storeInOwnDict (.ref x) (.ref C) (.str name tk) name v false) Q E s:=by
 obtain⟨oc,odi,oda,osl⟩:=ox;dsimp only at hcl hd hf;subst hcl hd hf;refine qa1 (qa6 (qa1 (qa1 (wpAny_loadPart hx (qa1 ((looks_clsIn X hc).here ?_))))));rw[hh];have hxs:x≠s.heap.objs.size:=qb8 (qa9 hx);have hx₁:(s.heap.push { cls:=.type "dict",data:=.dict #[] }).get? x=some ⟨.ref C,none,.fields vs,osl⟩:=qa4 _ hx
 have hgd:((s.heap.push { cls:=.type "dict",data:=.dict #[] }).update x fun o=>{ o with dict:=some s.heap.objs.size }).get? s.heap.objs.size=some { cls:=.type "dict",data:=.dict #[] } :=
  (qe7 _ _ hxs).trans (qb3 _ rfl)
 have hgx:((s.heap.push { cls:=.type "dict",data:=.dict #[] }).update x fun o=>{ o with dict:=some s.heap.objs.size }).get? x=some ⟨.ref C,some s.heap.objs.size,.fields vs,osl⟩ :=
  qf9 (fun o=>{ o with dict:=some s.heap.objs.size }) hx₁ rfl
 have hkeep:∀b o,b≠x->s.heap.get? b=some o->((s.heap.push { cls:=.type "dict",data:=.dict #[] }).update x fun o=>{ o with dict:=some s.heap.objs.size }).get? b=some o:=fun b o n e =>
  (qe7 _ _ n.symm).trans (qa4 _ e)
 refine qa1 (wpAny_alloc' (qa1 (wpAny_update' hx₁ (qa6 ?_))));generalize ((s.heap.push { cls:=.type "dict",data:=.dict #[] }).update x fun o=>{ o with dict:=some s.heap.objs.size })=G at hgd hgx hkeep ⊢;refine qa1 (qa6 (qa1 (wpAny_nsSet1 (m:=fun _=>none) (Heap.Ns1.of_empty ⟨_,#[],_,hgd,rfl,fun e he=>absurd he (by simp),fun _=>rfl⟩) fun h' hn' hs=>?_)));obtain⟨oD,esD,epD,zJ,hdD,hcD⟩:=hn'.count (Within.cons name v Within.nil);refine qa1 (wpAny_lookBehind zJ (by rw[hdD];exact pastItsLine_dict (qe5 hcD (by rw[qd9,qf7];decide))) ?_);exact qa6 (h h' _ ((hs.2 x hxs).trans hgx) hn' fun b o n e=>(hs.2 b (qb8 (qa9 e))).trans (hkeep b o n e))
end
end L2
namespace L2
open PySem PySem.Spec PyProof.Rows PySem.W
def uR{K:Frag}{h:Heap}{N:Addr}{mN:Str->Option Value}{n:Str}{v:Value}(X:K.In h)(G:h.Ns N mN)(z:nsIn K N n=some (some v)):mN n=some v:=by
 obtain⟨ob,es,ep,h1,h2,_,h4⟩:=G;unfold nsIn at z;split at z
 next c d es' n' sl q =>
  have y:=X _ _ q;rw[h1]at y;cases y;cases h2;split at z
  next en hen=>(cases z;rw[←h4];unfold nsFind findBy;rw[←Array.find?_toList,hen];rfl)
  next=>(split at z<;>cases z)
 next=>cases z
abbrev w9:=PySem.F.excBase_ValueError
structure Pn(K:Frag)(C D f:Addr):Prop where
 obj:∃N nm q bs sn sub ab col dd k0 k1 k2 k3 k5,K.lookup C=some (excClassObj nm q C N bs (.ref D::bmV) true sn sub ab col dd k0 k1 k2 k3 k5 "ValueError.__new__")/\nsOkIn K N=true/\nsIn K N "__init__"=some (some (.ref f))
 tail:tailIn K bmV (.ref D::bmV)=true
 fn:isFn K (.ref f)=true
 sa:findIn K (.ref C) "__setattr__"=some (some (.builtin "object.__setattr__"))
section
variable{prog:Program}{w:World}{A:Around}{E:Value->Shared->Prop}{h:Heap}{g:Array GenState}{d:Drawn}{t:Nat}{os:OsState}{K:Frag}{C D f:Addr}{rest:List Value}
def Pn.here(Z:Pn K C D f)(X:K.In h):∃N nm q bs sn sub ab col dd k0 k1 k2 k3 k5 mN,h.get? C=some (excClassObj nm q C N bs (.ref D::bmV) true sn sub ab col dd k0 k1 k2 k3 k5 "ValueError.__new__")/\h.Ns N mN/\mN "__init__"=some (.ref f)/\OwnTail h bmV (.ref D::bmV):=by
 obtain⟨N,nm,q,bs,sn,sub,ab,col,dd,k0,k1,k2,k3,k5,e,n1,n2⟩:=Z.obj;have n0:h.Ns N (h.nsMap N):=.of_isNs (isNs_of_in X n1);exact⟨N,nm,q,bs,sn,sub,ab,col,dd,k0,k1,k2,k3,k5,h.nsMap N,X _ _ e,n0,uR X n0 n2,tail_of_in X Z.tail⟩
theorem Pn.fnHere(Z:Pn K C D f)(X:K.In h):∃o,h.get? f=some o/\o.cls=.type "function":=by
 have z:=beq_iff_eq.mp Z.fn;unfold typeIn at z;cases q:K.lookup f with
 | none=>simp[q]at z
 | some o=>simp[q]at z;exact⟨o,X _ _ q,z⟩
abbrev Gh(C t:Addr)(dx:OAddr):Obj:={ cls:=.ref C,dict:=dx,data:=.fields #[.ref t,.none,.none,.none,.bool false,.none] }
def cX{Q:Value->Shared->Prop}(X:K.In h)(Z:Pn K C D f)(hr:rest.length<=sizeLine)
 (hq:∀h' e,h.objs.size<=e->Heap.MadeExcOf h h' e (.ref C) rest->wpAny (model prog w) (A.under (.builtin "type.__call__" ⟨.ref C::rest,[]⟩)) (call (.ref f) (.ref e::rest)) (fun r s'=>r=.none/\Q (.ref e) s') E ⟨h',g,d,t,os⟩) :
 wpAny (model prog w) A (call (.ref C) rest) Q E ⟨h,g,d,t,os⟩:=by
 obtain⟨N,nm,q,bs,sn,sub,ab,col,dd,k0,k1,k2,k3,k5,mN,hC,hN,hi,T⟩:=Z.here X;obtain⟨oI,hfI,hfc⟩:=Z.fnHere X;have f1:=tc_lookup;have f2:=tc_bind (.ref C);have hT:(⟨h,g,d,t,os⟩:Shared).TypeIs (.ref C) "type":=⟨_,hC,rfl⟩
 refine qq0 (codeAny_of_tree ?_);show wpAny _ _ (callAny (.ref C) _) _ _ _
 repeat (any_goals (first | assumption | with_reducible refine qe9 hC ?_ | wp_step))
 refine⟨rfl,codeAny_call_builtin_at (Code.quiet_builtin _ (by decide +kernel)) entry_typeCall (wpAny_check_type_call_sub hC ?_)⟩
 repeat (first | with_reducible refine qe9 hC ?_ | with_reducible refine wpAny_madeBy_exc hC ?_ | wp_step)
 refine codeAny_call_builtin_code (Code.quiet_builtin _ w9.quiet) (wpAny_check_new_subT w9 T hC (codeAny_exc_new_subT w9 T hC ?_ hr));show wpAny _ _ _ _ _ _
 let G:=(h.push { cls:=.type "tuple",data:=.seq rest.toArray }).push (Gh C h.objs.size none)
 have kG:∀b o,h.get? b=some o->G.get? b=some o:=fun b o e=>qa4 _ (qa4 _ e);have wO:=kG _ _ hC;have hN1:G.Ns N mN:=hN.keeps kG;have hf1:=kG _ _ hfI
 have hget:G.get? (h.objs.size+1)=some (Gh C h.objs.size none):=by
  have:=qb3 (h.push { cls:=.type "tuple",data:=.seq rest.toArray }) (o:=Gh C h.objs.size none) rfl
  rwa [qj0]at this
 have hcC:(Value.ref C::.ref D::bmV).contains (.ref C)=true:=by rw[qs0,beq_self_eq_true];rfl
 have hm:Heap.MadeExcOf h G (h.objs.size+1) (.ref C) rest:=⟨kG,qs9 (qp0 _),h.objs.size,hget,qs9 (qa8 _),qa4 _ (Heap.get?_push_at rfl rfl)⟩
 show wpAny _ _ _ _ _ ⟨G,g,d,t,os⟩
 clear_value G
 unfold isInstance
 repeat (first | (with_reducible refine qe9 hget ?_;dsimp only[Gh]) | (with_reducible refine wpAny_isSubtype_exc wO ?_;rw[hcC]) | wp_step)
 refine wpAny_typeLookup_tail wO hN1 (T.keeps kG) w9.mroIs w9.init.lookup ?_;rw[hi];refine qf3 (qa1 ?_);unfold bindSpecial;refine qa1 (wpAny_typeOf (T:="function") ⟨_,hf1,hfc⟩ ?_);rw[if_pos (by decide)];refine qa6 (qa1 (qe2 (hq G _ (qp0 _) hm) (fun r s' z=>?_) fun _ _ x=>x));obtain⟨rfl,z⟩:=z
 wp_walk
 exact z
end
noncomputable def En(e C:Addr):HO:=.ext fun h=>∃t,h.get? e=some (Gh C t none)
noncomputable def madeE(e C d:Addr):HO:=.ext fun h=>∃t,h.get? e=some (Gh C t (some d))
def j3{P:Program}{w:World}{H:Hp}{h:Heap}{e C t:Addr}(z:h.get? e=some (Gh C t none)):ObjOk P w H h e (En e C):=⟨⟨t,z⟩,⟨_,z⟩,fun _ _ ⟨t',y⟩ k=>⟨t',k _ y⟩⟩
def NF{P:Program}{w:World}{H:Hp}{h:Heap}{e C t d:Addr}(z:h.get? e=some (Gh C t (some d))):ObjOk P w H h e (madeE e C d):=⟨⟨t,z⟩,⟨_,z⟩,fun _ _ ⟨t',y⟩ k=>⟨t',k _ y⟩⟩
def gR{P:Program}{w:World}{H:Hp}{h:Heap}{e C:Addr}(z:ObjOk P w H h e (En e C)):∃t,h.get? e=some (Gh C t none):=z.1
def U5{P:Program}{w:World}{H:Hp}{h:Heap}{e C d:Addr}(z:ObjOk P w H h e (madeE e C d)):∃t,h.get? e=some (Gh C t (some d)):=z.1
structure dN(K:Frag)(D:Addr):Prop where
 rd:readsIn K D (.type "type")=true
 fc:findCls K (.ref D) (.type "type") "__init__"=some (.val (.builtin "ValueError.__init__"))
 ga:specialIn K (.ref D) "__getattribute__"=some (some (.builtin "type.__getattribute__"))
def xC(K:Frag)(t:TA):TE:=fun σ H Q=>t σ H fun vs H1=>∃e C D f y,vs=[.ref e,y]/\H1 e=some (En e C)/\Pn K C D f/\Q .non H1
section
variable{X:Cx}{K:Frag}
def jU{Ac:LAObj}{σ:St}{H:Hp}{s:Shared}{Q:VK}{e C D f:Addr}{u:Value}(I:Inv X Ac σ H s)(he:H e=some (En e C))(Z:Pn X.K C D f)(q:Q .non H) :
 wpAny (model X.prog X.w) X.A (call (.builtin "ValueError.__init__") [.ref e,u]) (EP X Ac σ Q) X.xe s:=by
 obtain⟨N,nm,qn,bs,sn,sub,ab,col,dd,k0,k1,k2,k3,k5,mN,hC,hN,hi,T⟩:=Z.here I.kIn;obtain⟨t0,hx⟩:=gR (I.hok e _ he);obtain⟨h,g,d,t,os⟩:=s;dsimp only at hx hC hN T;refine qq0 (codeAny_call_builtin w9.init.plain w9.initEntry (wpAny_check_init_subT w9 T hC hx rfl ?_))
 wp_walk
 refine⟨.non,H,?_,rfl,q⟩;have hx1:=qa4 (h:=h) { cls:=.type "tuple",data:=.seq [u].toArray } hx;have JU:=qf9 (Obj.mapFields (·.setIfInBounds 0 (Value.ref h.objs.size))) hx1 rfl
 have hu:upd H e (En e C)=H:=by
  funext b
  by_cases hb:b=e
  . rw[hb,Ab,he]
  . rw[Ai hb]
 have z:=I.write (x:=e) (e:=e) (o:=En e C) (t':=t) (by rw[he];exact True.intro) (.inl rfl) (h':=(h.push { cls:=.type "tuple",data:=.seq [u].toArray }).update e (Obj.mapFields (·.setIfInBounds 0 (Value.ref h.objs.size))))
  (fun b o hb hq=>(qe7 _ _ (Ne.symm hb)).trans (qa4 _ hq)) ⟨_,JU⟩ (j3 (t:=h.objs.size) JU)
 rw[hu]at z;exact z
def qI{x:Str}{D:Addr}{np apos pos:Pos}{e:Expr}{es:List Expr}{t:TA}{pl:Sem Bool}(hg:Gl X x)(hm:X.mg x=some (.ref D))(B:dN K D)(ha:PA X (e::es) t)(hK:X.K=K:=by rfl)
 (hdb:(x==("__debug__":Str))=false:=by decide) (hst:starEach (e::es) X.env=(false,eval e X.env)::starEach es X.env:=by rfl) (hpl:(backTo pos (starEach es X.env)).any (·.1)=false:=by rfl)
 (ht:eval (.Call (.Attribute (.Name x np) "__init__" apos) (e::es) [] pos) X.env=(do
   let ov ←eval (.Name x np) X.env
   standAt apos.atName
   let (f,first) ←holding [ov] (getMethod ov "__init__" pl)
   callWith pos f first (backTo pos (starEach (e::es) X.env)) (backToKw pos (keywordEach [] X.env))):=by rfl) :
 PE X (.Call (.Attribute (.Name x np) "__init__" apos) (e::es) [] pos) (xC K t):=by
 subst hK;intro Ac s σ H Q I h;refine PySem.W.methodCall_KW (pl:=pl) (Hr I hg hm ?_ hdb) ht;refine method_cls I.kIn B.ga (cls_value I.kIn B.rd B.fc rfl ?_);refine qt2 (Cz (ha pos Ac _ σ H _ (I.tok _) h) fun us s1 _z=>?_) hst hpl;obtain⟨vs,H1,I1,r1,e1,C,D',f,y,ev,he,Z,q1⟩:=_z;subst ev;obtain⟨u1,u2,rfl,ru,_⟩:=Op r1;cases ru;exact jU I1 he Z q1
def Aa9(K:Frag)(ta tv:TE)(f:Str):TS:=fun D σ H=>tv σ H fun y H1=>ta σ H1 fun x H2=>∃e C B g,x=.ref e/\H2 e=some (En e C)/\Pn K C B g/\findIn K (.ref C) f=some none ∧
 ∀d,H2 d=none->D.nx σ (upd (upd H2 d (.xd [(f,y)])) e (madeE e C d))
def Inv.errd{Ac:LAObj}{σ:St}{H:Hp}{s:Shared}{h':Heap}{t':Nat}{e C d:Addr}{o1 o2:HO}(I:Inv X Ac σ H s)(he:H e=some (En e C))(hd:s.heap.objs.size<=d)
 (k:∀b o,b≠e->s.heap.get? b=some o->h'.get? b=some o) (z1:∀H',ObjOk X.prog X.w H' h' d o1) (z2:∀H',ObjOk X.prog X.w H' h' e o2):Inv X Ac σ (upd (upd H d o1) e o2) { s with heap:=h',toks:=t' }:=by
 have hdn:H d=none:=I.hok.fresh hd;have VL:d≠e:=fun q=>by rw[q,he]at hdn;cases hdn
 have nb:∀b o,s.heap.get? b=some o->b≠d:=fun b o q=>qb8 (qc5 (qa9 q) hd);have ne:∀b,H b=none->b≠e:=fun b q z=>by rw[z,he]at q;cases q
 have go:∀b u,H b=some u->u≠En e C->upd (upd H d o1) e o2 b=some u:=fun b u q hu=>by
  have:b≠e:=fun z=>by rw[z,he]at q;cases q;exact hu rfl
  rw[Ai this,Ai (Ap q hdn)];exact q
 have tup:∀b xs,H b=some (.tup xs)->upd (upd H d o1) e o2 b=some (.tup xs):=fun b xs q=>go b _ q (by unfold En;intro z;cases z)
 refine I.un ⟨fun b o q n _ _=>k b o (ne b n) q,fun b o q n _ _=>⟨o.slots,k b o (ne b n) q⟩,fun b o q n _=>by rw[Ai (ne b n),Ai (nb b o q)];exact n,fun b o q _=>?_,tup,fun b o u q=>go b _ q (by unfold En;intro z;cases z),
  fun b ps q=>⟨#[],by rw[go b _ q (by unfold En;intro z;cases z)];simp⟩⟩ fun b u q=>?_
 . by_cases hb:b=e
   . obtain⟨o',q'⟩:=(z2 H).ob;exact⟨o',by rw[hb];exact q'⟩
   . exact⟨o,k b o hb q⟩
 . by_cases hb:b=e
   . subst hb;rw[Ab]at q;cases q;exact z2 _
   . rw[Ai hb]at q;by_cases hb2:b=d
     . subst hb2;rw[Ab]at q;cases q;exact z1 _
     . rw[Ai hb2]at q;refine(I.hok b u q).stay (fun c v hc z=>k c v ?_ z) (fun c z=>go c _ z (by unfold En;intro z;cases z)) tup;rintro rfl;rcases hc with z | z
       . exact hb z.symm
       . rw[he]at z;unfold En at z;cases z
def UD{o value:Expr}{f:Str}{pos pos':Pos}{ta tv:TE}(ha:PE X o ta)(hv:PE X value tv)(hs:swapsWith value (some (.Attribute o f pos')) pos.line X.env=pure false)(hK:X.K=K:=by rfl):PS X (.Assign [.Attribute o f pos'] value pos) (Aa9 K ta tv f):=by
 subst hK;intro Ac s σ H E I h;refine plainObj_wpAny_Assign_Attribute (Cz (hv Ac s σ H _ I h) fun u s1 ⟨y,H1,I1,ry,q⟩=>Cz (ha Ac s1 σ H1 _ I1 q) fun ov s2 _z=>?_) hs;obtain⟨x,H2,I2,rx,e,C,B,g,ex,he,Z,hf,q2⟩:=_z;subst ex;obtain rfl:ov=Value.ref e:=rx;obtain⟨t0,hx⟩:=gR (I2.hok e _ he);have J:InstAt s2.heap e (Gh C t0 none) C none:=⟨hx,rfl,rfl,True.intro⟩
 obtain⟨N,nm,qn,bs,sn,sub,ab,col,dd,k0,k1,k2,k3,k5,hl,_,_⟩:=Z.obj;obtain⟨cd,hc,hm,hh⟩:∃cd:ClassData,clsIn X.K C=some cd/\cd.mro=.ref C::.ref B::w8/\cd.hasDict=true:=⟨_,by unfold clsIn;rw[hl],rfl,rfl⟩
 refine set_plain I2.kIn J Z.sa (iE (s:={ s2 with toks:=s2.toks+1 }) I2.kIn J hc hm hf (AN (s:={ s2 with toks:=s2.toks+1 }) I2.kIn hx rfl rfl rfl hc hh fun h' t' z1 z2 z3=>?_));refine⟨σ,_,I2.errd (t':=t') (o1:=.xd [(f,y)]) he (qa8 _) z3 (fun H'=>⟨_,z2,fun n=>?_⟩) (fun H'=>NF z1),q2 _ (I2.hok.fresh (qa8 _))⟩;by_cases hn:n=f
 . subst hn;simp only[ql2,beq_self_eq_true,if_true];exact ry
 . have:(n==f)=false:=qj2.mpr hn;simp only[ql2,this,if_neg hn,List.lookup_nil];exact True.intro
end
noncomputable def del(H:Hp)(e:Addr):Hp:=fun b=>if b=e then none else H b
def R9{H:Hp}{e b:Addr}(h:b≠e):del H e b=H b:=if_neg h
def OG{H:Hp}{e:Addr}:del H e e=none:=if_pos rfl
section
variable{M:Model}{A:Around}{E:Value->Shared->Prop}{env:Env}
def iL{K:Frag}{C D f:Addr}{s:Shared}{x:Sem Value}{Q:Flow->Shared->Prop}(Z:Pn K C D f)(hh:A.handled=none)
 (h:wpAny M A x (fun v s1=>K.In s1.heap/\∃e t dx,v=.ref e/\s1.heap.get? e=some (Gh C t dx)/\E (.ref e) s1) E s):wpAny M A (raiseStmt env (some x) none) Q E s:=by
 unfold raiseStmt;refine qa1 (qe2 h (fun v s1 z=>?_) fun _ _ y=>y);obtain⟨X,e,t0,dx,rfl,he,hE⟩:=z;obtain⟨N,nm,q,bs,sn,sub,ab,col,dd,k0,k1,k2,k3,k5,mN,hC,hN,hi,T⟩:=Z.here X;have hB:(Value.ref C::.ref D::bmV).contains (.type "BaseException")=true:=by rw[qs0,T.hasType w9.hasBase,Bool.or_true]
 obtain⟨hp,g,d,tk,os⟩:=s1;dsimp only at he hC
 repeat (first | with_reducible refine qe9 he ?_ | with_reducible refine qe9 hC ?_ | (with_reducible refine wpAny_isSubtype_exc hC ?_;rw[hB]) | wp_step)
 exact wpAny_raiseNew_none hh hE
end
def MakesD(X:Cx)(J:XJ):Prop:=∀(Ac:LAObj) (σ:St) (H:Hp) (s:Shared) (e C d:Addr),Inv X Ac σ H s->X.s₀.heap.get? e=none->e ∉ frs X.stack->H e=some (madeE e C d)->J (.ref C) (some d) σ (del H e)->X.xe (.ref e) s
def GI(J:XJ)(C:Addr)(sp:Sp)(t:TA):TS:=fun _ σ H=>t σ H fun vs H1=>vs.length<=sizeLine/\∀e,H1 e=none →
 sp (.ref e::vs) (upd H1 e (En e C)) (fun v H2=>v=.non/\∃d,H2 e=some (madeE e C d)/\J (.ref C) (some d) σ (del H2 e)) (fun _ _ _=>False)
theorem iN{X:Cx}{J:XJ}{K:Frag}{C D f:Addr}{fd:FuncData}{ps:List Str}{k:Nat}{sp:Sp}{x:Str}{np cpos pos:Pos}{e:Expr}{es:List Expr}{t:TA}(hx:MakesD X J)(hc:X.calm=true)(hg:Gl X x)(hm:X.mg x=some (.ref C))(Z:Pn K C D f)(hkp:keepIn K (.ref C)=true)
 (F:B4 X.prog X.w X.K X.mg X.base Fv k f fd ps sp) (hb:Nt X.K fd ps []) (hr:E5 (k+1) X.A) (ha:PA X (e::es) t) (hK:X.K=K:=by rfl)
 (hdb:(x==("__debug__":Str))=false:=by decide) (he:starEach (e::es) X.env=(false,eval e X.env)::starEach es X.env:=by rfl) (hpl:(backTo cpos (starEach es X.env)).any (·.1)=false:=by rfl) :
 PS X (.Raise (some (.Call (.Name x np) (e::es) [] cpos)) none pos) (GI J C sp t):=by
 subst hK;intro Ac s σ H Dn I h
 have main:wpAny (model X.prog X.w) X.A (eval (.Call (.Name x np) (e::es) [] cpos) X.env) (fun v s1=>X.K.In s1.heap/\∃e' t' dx,v=.ref e'/\s1.heap.get? e'=some (Gh C t' dx)/\X.xe (.ref e') s1) X.xe s:=by
  refine qi9 (Hr I hg hm ?_ hdb);refine qm0 (h₀:=X.base) I.ok.mod.kin hkp (Cz (ha cpos Ac s σ H _ I h) fun us s1 ⟨vs,H1,I1,r,hl,q⟩=>⟨I1.kIn,?_⟩) he hpl;obtain⟨h1,g1,d1,t1,UI⟩:=s1;refine cX I1.kIn Z (by show us.length<=_;rw[←r.length];exact hl) fun h' e1 hsz vI=>?_;have hn:H1 e1=none:=I1.hok.fresh hsz;obtain⟨tt,ht,htn,ht2⟩:=vI.there;have I2:Inv X Ac σ (upd H1 e1 (En e1 C)) ⟨h',g1,d1,t1,UI⟩:=I1.laid (a:=e1) (h':=h') (t':=t1) vI.keeps hsz (j3 ht);have r2:Vals (V.ref e1::vs) (Value.ref e1::us):=.cons rfl r;have hlen:(Value.ref e1::us).length=ps.length:=by rw[←r2.length];exact F.len _ _ _ _ (q e1 hn)
  have hb1:=hb ⟨h',g1,d1,t1,UI⟩ (Value.ref e1::us) I2.kIn (by rw[qf8];exact hlen);rw[qf8]at hb1;refine qq0 (codeAny_mono (F.run _ X.stack _ _ ⟨Value.ref e1::us,[]⟩ (Value.ref e1::us) _ _ _ (hr.make C us []) (I2.env0.make C us []) hb1 r2 (q e1 hn)) fun rr s' hq=>?_);cases rr with
  | error u=>exact False.elim hq
  | ok fl =>
    cases fl with
    | ret u =>
      obtain⟨v,H3,I3,rv,ev,dd,hm3,hj⟩:=I2.after hq;subst ev;refine⟨rv,I3.kIn,e1,?_⟩;obtain⟨t3,h3⟩:=U5 (I3.hok e1 _ hm3)
      have hs0:X.s₀.heap.get? e1=none:=by
       cases z:X.s₀.heap.get? e1 with
       | none=>rfl
       | some o=>exact absurd (qc5 (qa9 z) (qe5 I1.sz hsz)) (qh7 _)
      have hst:e1 ∉ frs X.stack:=fun z=>by
       have:=I3.stkFree e1 z;rw[hm3]at this;cases this
      exact⟨_,_,rfl,h3,hx Ac σ H3 s' e1 C dd I3 hs0 hst hm3 hj⟩
    | next=>exact False.elim hq
    | brk=>exact False.elim hq
    | cont=>exact False.elim hq
 rw[arm_exec_Raise];refine qa1 (qq7 (iL Z (I.ok.hd hc) ?_));exact qa1 (qe2 main (fun v s3 z=>qa1 (qq7 (qa6 z))) fun _ _ y=>y)
structure pJ(P:Program)(w:World)(K:Frag)(mg:Str->Option Value)(base:Heap)(C D:Addr)(ps:List Str)(k:Nat)(sp:Sp):Prop where
 ex:∃(f:Addr) (fd:FuncData),Pn K C D f/\keepIn K (.ref C)=true/\Nt K fd ps []/\B4 P w K mg base Fv k f fd ps sp
def iO{X:Cx}{J:XJ}{C D:Addr}{ps:List Str}{j k:Nat}{sp:Sp}{x:Str}{np cpos pos:Pos}{e:Expr}{es:List Expr}{t:TA}(hx:MakesD X J)(hc:X.calm=true)(h:pJ X.prog X.w X.K X.mg X.base C D ps j sp)(hr:E5 k X.A)(hg:Gl X x)(hm:X.mg x=some (.ref C))(ha:PA X (e::es) t)
 (hk:j+1<=k:=by decide) (hdb:(x==("__debug__":Str))=false:=by decide) (he:starEach (e::es) X.env=(false,eval e X.env)::starEach es X.env:=by rfl) (hpl:(backTo cpos (starEach es X.env)).any (·.1)=false:=by rfl) :
 PS X (.Raise (some (.Call (.Name x np) (e::es) [] cpos)) none pos) (GI J C sp t):=by
 obtain⟨f,fd,Z,kp,hb,F⟩:=h.ex;exact iN hx hc hg hm Z kp F hb (hr.mono hk) ha rfl hdb he hpl
section
variable{P:Program}{w:World}{K:W.Frag}{mg:Str->Option Value}{base:Heap}{N:List Str}{qual:Str}{scope:Scope}{f:Addr}{cd:Value}{A:Around}{outer:List Env}{s:Shared}{H:Hp}{E:XK}
def EV:MakesD (Vy (PN P w) P w K mg base N qual scope f cd A outer s H E) (fun cls dx _ H'=>E cls dx H'):=by
 intro Ac σ H1 s1 e C d I hs0 hst he hj;have yC:s.heap.get? e=none:=hs0;have fin:∀env∈(envOfC qual scope s.heap.objs.size f cd::outer),∀b,env.frame=some b->b∈e::frs (envOfC qual scope s.heap.objs.size f cd::outer):=fun env hv b hb=>qb0 _ (qn9.mpr ⟨env,hv,hb⟩)
 have old:∀b o,s.heap.get? b=some o->b ∉ frs outer->b ∉ e::frs (envOfC qual scope s.heap.objs.size f cd::outer):=fun b o e1 hb z=>by
  rcases qc0.mp z with y | y
  . rw[y,yC]at e1;cases e1
  rw[u6]at y;rcases qc0.mp y with y | y
  . exact absurd (qa9 e1) (by rw[y];exact qh7 _)
  . exact hb y
 have nx:∀b:Addr,b ∉ ([]:List Addr):=fun b=>by simp
 have fr1:∀b∈frs (envOfC qual scope s.heap.objs.size f cd::outer),H1 b=none:=I.stkFree;obtain⟨t0,hx⟩:=U5 (I.hok e _ he)
 have ne:∀b u,H1 b=some u->u≠madeE e C d->del H1 e b=some u:=fun b u q hu=>by
  have:b≠e:=fun z=>by rw[z,he]at q;cases q;exact hu rfl
  rw[R9 this];exact q
 show wpAny (model P w) (A.deeper (envOfC qual scope s.heap.objs.size f cd)) (leaving (envOfC qual scope s.heap.objs.size f cd) (.ref e)) _ _ s1;have dE:ErrD e (some d) s1.heap:=⟨_,hx,rfl,_,rfl,rfl⟩
 have hin:PySem.W.hideAll s1.heap (e::frs (envOfC qual scope s.heap.objs.size f cd::outer)) |>.StaysIn s1.heap:=fun b o q=>qr6 _ q;have hen:(PySem.W.hideAll s1.heap (e::frs (envOfC qual scope s.heap.objs.size f cd::outer))).get? e=none:=PySem.W.hideAll_none _ (qb2 ..)
 refine qe2 (D8 (O5 _ _) (wpAny_leaving_firstW (E:=fun _ _=>False) (Q:=fun _ s2=>∃h2,s2={ s1 with heap:=h2 }/\Heap.LeftW (PySem.W.hideAll s1.heap (e::frs (envOfC qual scope s.heap.objs.size f cd::outer))) (envOfC qual scope s.heap.objs.size f cd::outer) e (.ref C) (.ref t0) s1.heap h2)
  (L:=s.heap.objs.size) I.ok.frames (PySem.W.funFrames_hide I.stack fin) rfl hx hin hen rfl rfl rfl fun h2 x=>⟨h2,rfl,x⟩)) (fun _ s2 ⟨⟨h2,e2,x⟩,kd⟩=>?_) (fun _ _ z=>z.1.elim)
 subst e2;obtain⟨x1,⟨_,_,x2⟩,x3,x4⟩:=x;refine⟨e,.ref C,.ref t0,_,del H1 e,some d,rfl,I.os,I.bare,⟨fun b o e1 n hb=>?_,fun b o e1 n hb=>?_,fun b o e1 n=>?_,fun b o e1 hb=>?_,fun b xs y=>ne b _ (I.base.tups b xs y) (by unfold madeE;intro z;cases z),fun b o u y=>ne b _ (I.base.frzs b o u y) (by unfold madeE;intro z;cases z),fun b ps y=>?_⟩,?_,⟨x1,hen,x2,x3⟩,dE.go kd,hj⟩
 . exact qi0 _ (I.base.keep b o e1 n hb (nx b)) (old b o e1 hb)
 . obtain⟨z,e2⟩:=I.base.slot b o e1 n hb (nx b);obtain⟨_,o',e3,hd⟩:=I.ok.funs.mem hb;have YT:s.heap.get? b=some o':=e3;rw[e1]at YT;cases YT;obtain⟨z2,e4⟩:=x4 b _ e2 hd;exact⟨z2,e4⟩
 . have:b≠e:=fun z=>by rw[z,yC]at e1;cases e1
   rw[R9 this];exact I.base.free b o e1 n (nx b)
 . obtain⟨o',e2⟩:=I.base.there b o e1 (nx b);exact⟨o',qi0 _ e2 (old b o e1 hb)⟩
 . obtain⟨m1,y1⟩:=I.base.tbls b ps y;exact⟨m1,ne b _ y1 (by unfold madeE;intro z;cases z)⟩
 . intro a u y;have ha:a≠e:=fun z=>by rw[z,OG]at y;cases y
   rw[R9 ha]at y;refine(I.hok a u y).stay (fun b v hb q=>qi0 _ q fun hm=>?_) (fun b q=>ne b _ q (by unfold madeE;intro z;cases z)) fun b xs q=>ne b _ q (by unfold madeE;intro z;cases z);rcases qc0.mp hm with hm | hm
   . rcases hb with rfl | hb
     . exact ha hm
     . rw[hm,he]at hb;unfold madeE at hb;cases hb
   . have z:=fr1 b hm;rcases hb with rfl | hb
     . rw[y]at z;cases z
     . rw[hb]at z;cases z
end
structure ErrA(K:Frag)(C:Addr)(name:Str):Prop where
 no:findIn K (.ref C) name=some none
 cd:∃cd,clsIn K C=some cd/\cd.hasDict=true
def Pn.attr{K:Frag}{C D f:Addr}{name:Str}(Z:Pn K C D f)(n:findIn K (.ref C) name=some none):ErrA K C name:=by
 obtain⟨N,nm,qn,bs,sn,sub,ab,col,dd,k0,k1,k2,k3,k5,hl,_,_⟩:=Z.obj;exact⟨n,_,by unfold clsIn;rw[hl],rfl⟩
section
variable{prog:Program}{w:World}{A:Around}{E:Value->Shared->Prop}{h:Heap}{g:Array GenState}{d:Drawn}{t:Nat}{os:OsState}{a C dx:Addr}{o:Obj}{K:Frag}{mA:Str->Option Value}{v:Value}{name:Str}
def lH{tk:Tok}{R:Result->Shared->Prop}(X:K.In h)(Z:ExcC K C)(Y:ErrA K C name)(hx:h.get? a=some o)(hc:o.cls=.ref C)(hd:o.dict=some dx){vs:Array Value}(hdat:o.data=.fields vs)(hn:h.Ns dx mA)(hv:mA name=some v)(hq:R (.ok (.ret v)) ⟨h,g,d,t,os⟩) :
 codeAny (model prog w) A (.call (.builtin "BaseException.__getattribute__") ⟨[.ref a,.str name tk],[]⟩) R ⟨h,g,d,t,os⟩:=by
 obtain⟨cd,hcd,hh⟩:=Y.cd;exact codeAny_call_builtin F.attr_ValueError.ga.plain F.entry_bexc_ga (T4 X Z hx hc (iB X Y.no hcd hh hx hc hd hdat hn hv hq))
def tL{tk:Tok}{fill expr:Bool}{Q:Value->Shared->Prop}(X:K.In h)(Z:ExcC K C)(Y:ErrA K C name)(hx:h.get? a=some o)(hc:o.cls=.ref C)(hd:o.dict=some dx){vs:Array Value}(hdat:o.data=.fields vs)(hn:h.Ns dx mA)(hv:mA name=some v)
 (hh:handedIn v=true) (hq:Q v ⟨h,g,d,t,os⟩):wpAny (model prog w) A (getAttrBy (.ref a) (.str name tk) fill expr) Q E ⟨h,g,d,t,os⟩:=by
 have f3:=F.attr_ValueError.ga.bind (.ref a);have hx0:(expr&&onTheHeap (Value.builtin "BaseException.__getattribute__"))=false:=by cases expr<;>rfl
 have JU:(Value.builtin "BaseException.__getattribute__"==Value.builtin "object.__getattribute__")=false:=by decide +kernel
 have hx1:(onTheHeap (Value.ref C)&&Value.builtin "BaseException.__getattribute__"==Value.builtin "object.__getattribute__")=false:=by rw[JU];rfl
 have L1:Looks (model prog w) h (typeLookup (.ref C) "__getattribute__") (some (.builtin "BaseException.__getattribute__")):=looks_findIn X Z.ga;have yZ:Looks (model prog w) h (typeLookup (.ref C) "__getattr__") none:=looks_findIn X Z.gt
 repeat (any_goals (first | assumption | (with_reducible refine qe9 hx ?_;rw[hc]) | with_reducible refine L1.at ?_ | with_reducible refine yZ.at ?_ | wp_step))
 refine lH X Z Y hx hc hd hdat hn hv ?_
 repeat (any_goals (first | assumption | with_reducible refine handed_on hh ?_ | wp_step))
def aK{expr:Bool}{Q:Value->Shared->Prop}(X:K.In h)(Z:ExcC K C)(Y:ErrA K C name)(hx:h.get? a=some o)(hc:o.cls=.ref C)(hd:o.dict=some dx){vs:Array Value}(hdat:o.data=.fields vs)(hn:h.Ns dx mA)(hv:mA name=some v)
 (hh:handedIn v=true) (hq:Q v ⟨h,g,d,t+1,os⟩):wpAny (model prog w) A (getAttr (.ref a) name expr) Q E ⟨h,g,d,t,os⟩:=by
 unfold getAttr
 repeat (any_goals (first | assumption | with_reducible apply tL X Z Y hx hc hd hdat hn hv hh | wp_step))
end
def tErrAt(K:Frag)(ta:TE)(f:Str):TE:=fun σ H Q=>ta σ H fun x H1=>∃e C d fs v,x=.ref e/\H1 e=some (excX e (.ref C) (some d))/\ExcC K C/\ErrA K C f/\H1 d=some (.xd fs)/\fs.lookup f=some v/\Q v H1
section
variable{X:Cx}{K:Frag}
def mH{e:Expr}{f:Str}{pos:Pos}{ta:TE}(he:PE X e ta)(hb:attributeBase e f X.env (eval e X.env)=eval e X.env:=by rfl)(hK:X.K=K:=by rfl):PE X (.Attribute e f pos) (tErrAt K ta f):=by
 subst hK;intro Ac s σ H Q I h;refine HJ hb (Cz (he Ac s σ H _ I h) fun u s1 _z=>?_);obtain⟨x,H1,I1,rx,a,C,d,fs,v,ex,ea,Z,Y,hd,hl,q⟩:=_z;subst ex;obtain rfl:u=Value.ref a:=rx;obtain⟨⟨o,vs,e1,c1,d1,d2,_⟩,_⟩:=I1.hok a _ ea;obtain⟨mA,hn,hr⟩:=I1.hok d _ hd;obtain⟨u,hu,ru⟩:=RelO.some_of (v:=v) (o:=mA f) (by rw[←hl];exact hr f);obtain⟨h1,g1,dd1,t1,UI⟩:=s1;exact aK I1.kIn Z Y e1 c1 d2 d1 hn.ns hu (Yr ru) ⟨v,H1,I1.tok _,ru,q⟩
def FE(hK:X.K=K:=by rfl):CallR X (.builtin "isinstance") (fun xs H Q=>∃(e C d:Addr) (y:V) (c:Value) (b:Bool),xs=[.ref e,y]/\RelV y c/\(∀u,RelV y u->u=c)/\H e=some (excX e (.ref C) (some d))/\ExcC K C/\kitOne K (.ref C) c=some b/\Q (.bl b) H):=by
 subst hK;intro Ac s σ H xs us Q I r h;obtain⟨e,C,d,y,c,b,rfl,_,hy,hH,Z,kk,q⟩:=h;obtain⟨u,v,rfl,rx,rt⟩:=Op r;cases rx;cases hy v rt;have ho:=I.hok e _ hH;obtain⟨⟨o,vs,e1,c1,_⟩,_⟩:=ho;exact kia_one (bR Z) I.kIn ⟨o,e1,c1⟩ kk (fun z=>nomatch z) fun tk=>⟨.bl b,H,I.tok tk,rfl,q⟩
end
def TR(C:Addr)(sp:Sp)(t:TA):TE:=fun σ H Q=>t σ H fun vs H1=>vs.length<=sizeLine/\∀e,H1 e=none->sp (.ref e::vs) (upd H1 e (En e C)) (fun v H2=>v=.non/\Q (.ref e) H2) (fun _ _ _=>False)
def pT(K:Frag)(ta:TE)(f:Str):TE:=fun σ H Q=>ta σ H fun x H1=>∃e C d fs v,x=.ref e/\H1 e=some (madeE e C d)/\ExcC K C/\ErrA K C f/\H1 d=some (.xd fs)/\fs.lookup f=some v/\Q v H1
section
variable{X:Cx}{K:Frag}
theorem eE{C D:Addr}{ps:List Str}{j k:Nat}{sp:Sp}{x:Str}{np pos:Pos}{e:Expr}{es:List Expr}{t:TA}(h:pJ X.prog X.w X.K X.mg X.base C D ps j sp)(hr:E5 k X.A)(hg:Gl X x)(hm:X.mg x=some (.ref C))(ha:PA X (e::es) t)
 (hk:j+1<=k:=by decide) (hdb:(x==("__debug__":Str))=false:=by decide) (he:starEach (e::es) X.env=(false,eval e X.env)::starEach es X.env:=by rfl) (hpl:(backTo pos (starEach es X.env)).any (·.1)=false:=by rfl) :
 PE X (.Call (.Name x np) (e::es) [] pos) (TR C sp t):=by
 obtain⟨f,fd,Z,kp,hb,F⟩:=h.ex;intro Ac s σ H Q I hw;refine qi9 (Hr I hg hm ?_ hdb);refine qm0 (h₀:=X.base) I.ok.mod.kin kp (Cz (ha pos Ac s σ H _ I hw) fun us s1 ⟨vs,H1,I1,r,hl,q⟩=>⟨I1.kIn,?_⟩) he hpl;obtain⟨h1,g1,d1,t1,UI⟩:=s1;refine cX I1.kIn Z (by show us.length<=_;rw[←r.length];exact hl) fun h' e1 hsz vI=>?_;have hn:H1 e1=none:=I1.hok.fresh hsz;obtain⟨tt,ht,htn,ht2⟩:=vI.there;have I2:Inv X Ac σ (upd H1 e1 (En e1 C)) ⟨h',g1,d1,t1,UI⟩:=I1.laid (a:=e1) (h':=h') (t':=t1) vI.keeps hsz (j3 ht);have r2:Vals (V.ref e1::vs) (Value.ref e1::us):=.cons rfl r;have hlen:(Value.ref e1::us).length=ps.length:=by rw[←r2.length];exact F.len _ _ _ _ (q e1 hn)
 have hb1:=hb ⟨h',g1,d1,t1,UI⟩ (Value.ref e1::us) I2.kIn (by rw[qf8];exact hlen);rw[qf8]at hb1;refine qq0 (codeAny_mono (F.run _ X.stack _ _ ⟨Value.ref e1::us,[]⟩ (Value.ref e1::us) _ _ _ ((hr.mono hk).make C us []) (I2.env0.make C us []) hb1 r2 (q e1 hn)) fun rr s' hq=>?_);cases rr with
 | error u=>exact False.elim hq
 | ok fl =>
   cases fl with
   | ret u =>
     obtain⟨v,H3,I3,rv,ev,q3⟩:=I2.after hq;subst ev;exact⟨rv,.ref e1,H3,I3,rfl,q3⟩
   | next=>exact False.elim hq
   | brk=>exact False.elim hq
   | cont=>exact False.elim hq
def iV{e:Expr}{f:Str}{pos:Pos}{ta:TE}(he:PE X e ta)(hb:attributeBase e f X.env (eval e X.env)=eval e X.env:=by rfl)(hK:X.K=K:=by rfl):PE X (.Attribute e f pos) (pT K ta f):=by
 subst hK;intro Ac s σ H Q I h;refine HJ hb (Cz (he Ac s σ H _ I h) fun u s1 _z=>?_);obtain⟨x,H1,I1,rx,a,C,d,fs,v,ex,ea,Z,Y,hd,hl,q⟩:=_z;subst ex;obtain rfl:u=Value.ref a:=rx;obtain⟨t0,e1⟩:=U5 (I1.hok a _ ea);obtain⟨mA,hn,hr⟩:=I1.hok d _ hd;obtain⟨u,hu,ru⟩:=RelO.some_of (v:=v) (o:=mA f) (by rw[←hl];exact hr f);obtain⟨h1,g1,dd1,t1,UI⟩:=s1;exact aK I1.kIn Z Y e1 rfl rfl rfl hn.ns hu (Yr ru) ⟨v,H1,I1.tok _,ru,q⟩
end
end L2
namespace Hb
open PySem L2
end Hb
namespace L2
open PySem PySem.Spec PyProof.Rows PySem.W
section
variable{X:Cx}{J:XJ}{j k:Nat}{C:Addr}{ps:List Str}{sp:Sp}{m:Str}{pos apos:Pos}{e o:Expr}{es:List Expr}{ta:TE}{t:TA}
end
end L2
namespace L2
open PySem PySem.Spec PyProof.Rows
abbrev TJ:=St->Hp->(Hp->Prop)->Prop
section
variable{X:Cx}{e v₁ v₂:Expr}{es rest:List Expr}{te:TE}{tj:TJ}{pos:Pos}
end
end L2
namespace Hb
open PySem L2
section
variable(K:W.Frag)
end
end Hb
namespace L2
open PySem PySem.Spec PyProof.Rows
structure PEw(X:Cx)(e:Expr)(t:TE):Prop where
 h:PE X e t
def qH{X:Cx}{K:W.Frag}{sl:Expr}{es:List Expr}{k:Nat}{p q:Pos}{ta:TA}{tsl:TE}(ha:PAw X es ta)(hsl:PE X sl tsl)(hpi:HM sl)(hK:X.K=K:=by rfl) :
 PEw X (.Subscript (.Tuple es k p) sl q) (WX (uC K) (wW ta) tsl):=by
 subst hK;exact⟨Bp Bx (Ch ha.h) hsl hpi⟩
end L2
namespace Hb
open PySem L2
def at0(x:V)(r:List V):Pp (x::r) 0=some x:=Dw (j:=0) rfl
def at1(x y:V)(r:List V):Pp (x::y::r) 1=some y:=Dw (j:=1) rfl
section
variable(K:W.Frag)
end
end Hb
namespace Hb
def isP(n:Int):Bool:=(List.range (n-2).toNat).all fun k=>decide (¬n%(2+(k:Int))=0)
structure Al5(p:Int):Prop where
 two:2<=p
 free:∀k:Int,2<=k->k<p->¬p%k=0
def prs(m:Nat):List Int:=((List.range m).map fun(i:Nat)=>2+(i:Int)).filter isP
def dvs(n:Int)(m:Nat):List Int:=((List.range m).map fun(i:Nat)=>2+(i:Int)).filter fun k=>decide (n%k=0)
end Hb
namespace L2
open PySem PySem.Spec PyProof.Rows
end L2
namespace Hb
open PySem L2
def Kb{xs:LLInt}(h:B0 xs):Wx xs:=fun x hx=>by
 obtain⟨k,hk⟩:=qi8 hx;exact(h k x hk).cnt
def Uf{xs:LLInt}{q:List Int}(h:B0 xs)(hf:wJ xs q):B0 (xs++[q]):=fun k p hk=>by
 by_cases hlt:k<xs.length
 . rw[qk9 hlt]at hk;rw[qj7 (by omega)];exact h k p hk
 . have hk':k<(xs++[q]).length:=(qa2.mp hk).1;have e:k=xs.length:=by simp at hk';omega
   subst e;simp at hk;subst hk;rw[qj7 (qa8 _),qb9];exact hf
def u4{xs:LLInt}{f:Int}(h0:0<=f)(h1:f<(xs.length:Int)):xs[f.toNat]?=some (xs.getD f.toNat []):=by
 have:f.toNat<xs.length:=by omega
 rw[qa5,qa0 this];rfl
def fM{xs:LLInt}{q:List Int}(h:Jp xs (tI q)=true):∀f∈q,0<=f/\f<(xs.length:Int)/\Ca (xs.getD f.toNat []).length=Ca q.length-1:=by
 intro f hf;have h':Jp xs (.tup (B7 q))=true:=h;rw[Ii]at h';simp only[qb4]at h';have h2:=qc8.mp h'.1.2 (.int f) (qd8.mpr ⟨f,hf,rfl⟩);have h3:(decide (0<=f)&&decide (f<(xs.length:Int))&&decide (Ca (xs.getD f.toNat []).length=Ca (B7 q).length-1))=true:=h2;simp only[qb4,qk2]at h3;have hl:(B7 q).length=q.length:=by unfold B7;rw[qa3]
 rw[hl]at h3;exact⟨h3.1.1,h3.1.2,h3.2⟩
def oB{xs:LLInt}{q:List Int}(h:Jp xs (tI q)=true):q.length=0\/q.length=2\/q.length=3\/q.length=4:=by
 have h':Jp xs (.tup (B7 q))=true:=h;rw[Ii]at h';simp only[qb4]at h';have h1:=h'.1.1;have hl:(B7 q).length=q.length:=by unfold B7;rw[qa3]
 rw[hl]at h1;unfold Xp at h1;simp only[qq5,beq_iff_eq]at h1;omega
def qT(q:List Int):(B7 q).map tO=q:=by
 unfold B7;rw[qh9];exact(qg4 fun _ _=>rfl).trans (List.map_id q)
def GX{xs:LLInt}{q:List Int}(hc:Wx xs)(h:Jp xs (tI q)=true):wJ xs q:=by
 have hfs:=fM h;have hcn:=oB h
 have vJ:∀f∈q,(xs.getD f.toNat []).length-1+1=q.length-1:=fun f hf=>by
  obtain⟨h0,h1,h2⟩:=hfs f hf;have hq:1<=q.length:=List.length_pos_of_mem hf;rw[Ey,Ey]at h2;omega
 refine⟨hcn,fun f hf=>(hfs f hf).1,fun f hf=>?_,fun h3 i j f g r s hij hj hi hr hs=>?_⟩
 . obtain⟨h0,h1,_⟩:=hfs f hf;exact⟨_,u4 h0 h1,vJ f hf⟩
 . have hf:=qb5 hj;have hg:=qb5 hi;obtain⟨f0,f1,_⟩:=hfs f hf;obtain⟨g0,g1,_⟩:=hfs g hg;have er:r=xs.getD f.toNat []:=by rw[u4 f0 f1]at hr;exact(qd4 hr).symm
   have es:s=xs.getD g.toNat []:=by rw[u4 g0 g1]at hs;exact(qd4 hs).symm
   have h':Jp xs (.tup (B7 q))=true:=h;rw[Ii]at h';simp only[qb4,qq5,qk2,qT]at h';have hl:(B7 q).length=q.length:=by unfold B7;rw[qa3]
   have ha:Pl xs q=true:=by
    rcases h'.2 with z | z
    . rw[hl,Ey]at z;omega
    . exact z
   have hjl:j<q.length:=(qa2.mp hj).1;have h4:=qc8.mp (qc8.mp ha j (qe6.mpr hjl)) i (qe6.mpr hij);unfold agreeAt at h4;have hjd:q.getD j 0=f:=by rw[qa5,hj];rfl
   have hid:q.getD i 0=g:=by rw[qa5,hi];rfl
   rw[hjd,hid,←er,←es,qk2]at h4;have l1:=vJ f hf;have l2:=vJ g hg;rw[←er]at l1;rw[←es]at l2;have hr':r.length=0\/r.length=2\/r.length=3\/r.length=4:=by rw[er];exact hc.at f0 f1
   have hs':s.length=0\/s.length=2\/s.length=3\/s.length=4:=by rw[es];exact hc.at g0 g1
   have i1:i<r.length:=by omega
   have j1:j-1<s.length:=by omega
   rw[qa0 i1,qa0 j1];rw[qa5,qa5,qa0 i1,qa0 j1]at h4;exact congrArg some h4
def yR(xs:LLInt):DE->Bool
 | .d d=>Jp xs d
 | .nul=>false
def Mut(H:Hp)(c:Addr):Prop:=(∃us,H c=some (.lst us))\/∃kvs,H c=some (.dK kvs)
section
variable{K:W.Frag}{CG:Addr}{H H':Hp}{g pc sh ed en:Addr}{p:Int}{xs:LLInt}{es ss:List Ms}{bs:Ms}
end
section
variable{H H' H0:Hp}{Z W:Addr->Prop}
end
section
variable{K:W.Frag}{CG:Addr}{H H':Hp}{g pc sh ed en:Addr}{p:Int}{xs:LLInt}{es ss:List Ms}{bs:Ms}{W:Addr->Prop}
end
def meetsB(xs:LLInt)(fs:List Int)(f:Int):Bool:=decide ((xs.getD f.toNat []).length=0) || (List.range fs.length).all fun i=>decide ((xs.getD f.toNat []).getD i 0=(xs.getD (fs.getD i 0).toNat []).getD (fs.length-1) 0)
section
variable(K:W.Frag)(CG:Addr)
def Q1:Sp:=fun vs H Q _=>∃(a:Addr) (th:V) (e:DE) (xs:LLInt),vs=[.ref a,th]/\LT K H (.ref a) xs/\Wx xs/\xs.length<=1000/\wG K H th e/\∀H',Ah H H'->Q (.bl (yR xs e)) H'
def Nw:Sp:=fun vs H Q _=>∃(a:Addr) (v:V) (xs:LLInt) (fs:List Int) (f:Int),vs=[.ref a,v,.int f]/\LT K H (.ref a) xs/\TI K H v fs/\0<=f/\f<(xs.length:Int)/\(∀g∈fs,0<=g/\g<(xs.length:Int))/\fs.length<=4 ∧
 ((xs.getD f.toNat []).length=0\/(fs.length<=(xs.getD f.toNat []).length/\∀g∈fs,fs.length<=(xs.getD g.toNat []).length))/\Q (.bl (meetsB xs fs f)) H
end
def meets_agree{xs:LLInt}{p:List Int}{j:Nat}(hj:j<p.length):meetsB xs (p.take j) (p.getD j 0)=(decide ((xs.getD (p.getD j 0).toNat []).length=0) || (List.range j).all fun i=>agreeAt xs p j i):=by
 unfold meetsB;have hl:(p.take j).length=j:=by rw[qc4];omega
 rw[hl]
 congr 1
 rw[qh4,qc8,qc8];have e:∀i,i<j->(p.take j).getD i 0=p.getD i 0:=fun i hi=>by rw[qa5,qa5,List.getElem?_take_of_lt hi]
 constructor
 . intro h i hi;have:=h i hi;rw[e i (qe6.mp hi)]at this;exact this
 . intro h i hi;rw[e i (qe6.mp hi)];exact h i hi
def jL{xs:LLInt}{p:List Int}(hC:Wx xs)(hall:∀f∈p,0<=f/\f<(xs.length:Int)/\Ca (xs.getD f.toNat []).length+1=Ca p.length):(∀j,j<p.length->meetsB xs (p.take j) (p.getD j 0)=true)↔(decide (Ca p.length<2) || Pl xs p)=true:=by
 constructor
 . intro h;by_cases hl:Ca p.length<2
   . rw[qd3 hl];rfl
   . rw[qe3 hl,qs5];unfold Pl;rw[qc8];intro j hj;have hj':=qe6.mp hj;have h1:=h j hj';rw[meets_agree hj']at h1;obtain⟨x0,x1,x2⟩:=hall _ (Bz (d:=0) hj');have hne:¬(xs.getD (p.getD j 0).toNat []).length=0:=fun z=>by rw[z,Ey]at x2;omega
     rw[qe3 hne,qs5]at h1;exact h1
 . intro h j hj;rw[meets_agree hj];obtain⟨x0,x1,x2⟩:=hall _ (Bz (d:=0) hj);by_cases hl:Ca p.length<2
   . have hc:=hC.at x0 x1;have hz:(xs.getD (p.getD j 0).toNat []).length=0:=by rw[Ey]at x2;omega
     rw[qd3 hz];rfl
   . rw[qe3 hl,qs5]at h;unfold Pl at h;rw[qc8]at h;rw[h j (qe6.mpr hj),Bool.or_true]
section
variable{K:W.Frag}{CG CP CS:Addr}
end
end Hb
namespace L2
open PySem PySem.Spec PyProof.Rows
def Zq{t u:TS}{D:Ends}{σ:St}{H:Hp}(σ1:St)(H1:Hp)(ht:∀D':Ends,D'.nx σ1 H1->t D' σ H)(h:u D σ1 H1):LK t u D σ H:=ht { D with nx:=u D } h
end L2
namespace Hb
open PySem L2
section
variable{K:W.Frag}{CG:Addr}{H H' H1 H2:Hp}{W:Addr->Prop}{g pc sh ed en:Addr}{p:Int}{xs:LLInt}{es ss:List Ms}{bs:Ms}
end
section
variable{p:Int}{xs:LLInt}{es ss:List Ms}{bs:Ms}
end
section
variable{p:Int}{xs:LLInt}{q:List Int}{es ss:List Ms}{bs ms me:Ms}
end
end Hb
namespace L2
open PySem PySem.Spec PyProof.Rows
section
variable{prog:Program}{w:World}{A:Around}{R:Result->Shared->Prop}
end
def tDClear(td:TE):TE:=fun σ H Q=>td σ H fun x H1=>∃(a:Addr) (kvs:List (Key × V)),x=.ref a/\H1 a=some (.dK kvs)/\Q .non (upd H1 a (.dK []))
def Ya{X:Cx}{o:Expr}{td:TE}{apos cpos:Pos}(ho:PE X o td)(hbase:attributeBase o "clear" X.env (eval o X.env)=eval o X.env:=by rfl)(hline:(apos.endLine==cpos.line)=true:=by rfl):PE X (.Call (.Attribute o "clear" apos) [] [] cpos) (tDClear td):=by
 intro Ac s σ H Q I h;refine qq8 hbase hline (Cz (ho Ac s σ H _ I h) fun v s1 _z=>?_);obtain⟨x,H1,I1,r1,a,kvs,ex,ha,q1⟩:=_z;subst ex;obtain rfl:v=Value.ref a:=r1;obtain⟨t1,t2,_⟩:=fJ I1 (.inl ⟨kvs,.inl ha⟩);exact⟨"dict","dict.clear",qh6,PySem.F.slot_dict_clear,PySem.F.type_dict_clear,t1,t2,qg5 rfl (qn4 (RM I1 ha fun s' I'=>⟨.non,_,I',rfl,q1⟩))⟩
end L2
namespace Hb
open PySem L2
section
variable(K:W.Frag)(CG:Addr)
def Q2:Sp:=fun vs H Q _=>∃(c:Addr) (ns:List Int) (kind most:Int),vs=[.int kind,.ref c,.int most]/\SqL K H c (ns.map V.int)/\ns.length<=63/\0<=most/\most<=40 ∧
 ∀(p:Addr) (us:List V) (xs:LLInt) (H':Hp),H p=none->Ah H H'->H' p=some (.lst us)->Reps K H' us (xs.map tI)->B0 xs->(xs.length:Int)<=most->Q (.ref p) H'
end
end Hb
namespace L2
open PySem PySem.Spec PyProof.Rows
def wV:Int:=reduceHash (Builtin.Tuple.tupleHashOf [hashInt 0])
def hsh:V->Int
 | .int i=>hashInt i
 | .bl b=>if b then 1 else 0
 | .non=>0xFCA86420
 | .ref _=>wV
 | _=>0
abbrev WS:List (V × V)->List DictEntry->Prop:=Paired fun p e=>RelV p.1 e.key/\RelV p.2 e.val/\e.hash=hsh p.1
def OddObj(o:Obj)(kvs:List (V × V)):Prop:=o.ExactDict/\∃es ep,o.data=.dict es ep/\WS kvs es.toList
inductive lC:Value->Prop
 | non:lC .none
 | bl (b:Bool):lC (.bool b)
 | int (i:Int) (t:Tok):lC (.int i t)
 | ref (a:Addr):lC (.ref a)
section
variable{prog:Program}{w:World}{A:Around}{E:Value->Shared->Prop}{s:Shared}
theorem CB{d:Addr}{o:Obj}{es:Array DictEntry}{ep:Nat}{key:Value}{h:Int}{Q:Option Nat->Shared->Prop}(hv:lC key)(ho:s.heap.get? d=some o)(hd:o.data=.dict es ep)
 (hh:∀e∈es,e.hash≠h) (hk:∀e∈es,e.key≠key) (q:Q none s):wpAny (model prog w) A (dictFind d key h) Q E s:=by
 have hp:placesWithHash es.size (fun i=>es[i]?.map (·.hash)) h=[]:=by
  unfold placesWithHash;rw[List.filter_eq_nil_iff];intro i hi;have hl:i<es.size:=qe6.mp hi;show ¬((es[i]?.map (·.hash))==some h)=true;rw[ql0 hl,Option.map_some];have:=hh es[i] (Array.getElem_mem hl);simpa using this
 unfold dictFind
 try with_reducible refine qf3 ?_
 refine qa1 (qf6 ho hd ?_);cases hv with
 | ref a =>
   rw[hp]
   try dsimp only
   have hany:¬(es.any fun e=>e.key==Value.ref a&&e.hash != h)=true:=by
    rw[←Array.any_toList,qj8];rintro ⟨e,hin,hc⟩;have:=hk e (qn3.mp hin);simp only[qb4,beq_iff_eq]at hc;exact this hc.1
   rw[if_neg (by simp[carriedByValue]),if_neg hany];exact qa1 (qa6 (qa6 q))
 | _=>rw[hp];exact qa6 q
end
noncomputable def XO(a:Addr)(o:Obj):HO:=.ext fun h=>h.get? a=some o
def OddAt(H:Hp)(a:Addr)(kvs:List (V × V)):Prop:=(a==sysModules)=false/\∃o,H a=some (XO a o)/\OddObj o kvs
def IsKey(H:Hp)(y:V):Prop:=(∃i,y=.int i)\/(∃b,y=.bl b)\/y=.non\/∃t,y=.ref t/\H t=some (.tup [.int 0])
def RV{P:Program}{w:World}{H:Hp}{h:Heap}{a:Addr}{o:Obj}(e:h.get? a=some o):ObjOk P w H h a (XO a o):=⟨e,⟨o,e⟩,fun h1 h2 q k=>k o q⟩
def IsKey.val{H:Hp}{y:V}{u:Value}(k:IsKey H y)(r:RelV y u):lC u:=by
 rcases k with⟨i,rfl⟩|⟨b,rfl⟩ | rfl|⟨t,rfl,_⟩
 . obtain⟨t,rfl⟩:=r;exact .int i t
 . cases r;exact .bl b
 . cases r;exact .non
 . cases r;exact .ref t
section
variable{X:Cx}{Ac:LAObj}{σ:St}{H:Hp}{s:Shared}{a:Addr}{y v:V}{u r:Value}{A:Around}{E:Value->Shared->Prop}{o:Obj}{kvs:List (V × V)}
def Lg(I:Inv X Ac σ H s)(e:H a=some (XO a o)):s.heap.get? a=some o:=(show ObjOk X.prog X.w H s.heap a (XO a o) from I.hok a _ e).1
def RG{Q:Int->Shared->Prop}(hu:A.units<cLine)(I:Inv X Ac σ H s)(k:IsKey H y)(ry:RelV y u)(h:∀tk,Q (hsh y) { s with toks:=tk }):wpAny (model X.prog X.w) A (pyHash u) Q E s:=by
 rcases k with⟨i,rfl⟩|⟨b,rfl⟩ | rfl|⟨t,rfl,ht⟩
 . obtain⟨t,rfl⟩:=ry;exact wpAny_pyHash_int (h _)
 . cases ry;refine PySem.W.pyHash_slot (T:="bool") rfl qn8 entry_int_hash (args_int_hash _) (beq_builtin_none _) (.inr hu) ?_;cases b
   . exact(show wpAny _ _ (do ret (←mkInt 0)) _ _ s from qa1 (wpAny_mkInt (qa6 ⟨_,_,rfl,h _⟩)))
   . exact(show wpAny _ _ (do ret (←mkInt 1)) _ _ s from qa1 (wpAny_mkInt (qa6 ⟨_,_,rfl,h _⟩)))
 . cases ry;exact PySem.W.pyHash_slot (T:="NoneType") rfl F.slot_NoneType_hash F.entry_NoneType_hash (F.args_NoneType_hash_1 _) (beq_builtin_none _) (.inr hu) (qa1 (qa6 (qa1 (wpAny_mkInt (qa6 ⟨_,_,rfl,h _⟩)))))
 . cases ry;have hk:IsTupleKey (mixKind X.prog X.w) s.heap [Sum.inl 0] t:=U8 (ks:=[Sum.inl 0]) I.hok (by simpa[kV]using ht);exact wpAny_pyHash_tuple hu hk (h _)
theorem WS.mem{kvs:List (V × V)}{es:List DictEntry}(r:WS kvs es):∀e∈es,∃p∈kvs,RelV p.1 e.key/\e.hash=hsh p.1:=by
 induction r with
 | nil=>intro e he;exact nomatch he
 | @cons p q ps qs h t ih =>
   intro e he;rcases qc0.mp he with rfl | he
   . exact⟨p,qb2,h.1,h.2.2⟩
   . obtain⟨p',h1,h2⟩:=ih e he;exact⟨p',qb0 _ h1,h2⟩
theorem WS.get{kvs:List (V × V)}{es:List DictEntry}(r:WS kvs es):∀{i:Nat}{p:V × V},kvs[i]?=some p->∃e,es[i]?=some e/\RelV p.1 e.key/\RelV p.2 e.val/\e.hash=hsh p.1:=by
 induction r with
 | nil=>intro i p e;simp at e
 | @cons p' q ps qs h t ih =>
   intro i p e;cases i with
   | zero =>
     have e':p'=p:=by simpa using e
     subst e';exact⟨q,by simp,h⟩
   | succ i =>
     obtain⟨x,h1,h2⟩:=ih (i:=i) (p:=p) (by simpa using e);exact⟨x,by simpa using h1,h2⟩
theorem vW{ms:List (Key × V)}(I:Inv X Ac σ H s)(e:H a=some (.dK ms))(hi:∀p∈ms,∃i,p.1=Sum.inl i):(a==sysModules)=false/\ms.length<=sizeLine/\∃o,s.heap.get? a=some o/\OddObj o (ms.map fun p=>(kV p.1,p.2)):=by
 obtain⟨z,hs,vs,rel,o,es,ep,ho,hx,hd,hk,hp,hn⟩:=Yx I.hok e;refine⟨hs,z,o,ho,hx,es,ep,hd,?_⟩;have hk':∀e∈es.toList,∃k,(mixKind X.prog X.w).is k e.key=true/\e.hash=(mixKind X.prog X.w).hash k:=fun e he=>hk e (qn3.mp he);clear hk hn hd e z;generalize es.toList=el at hk' hp
 induction hp generalizing ms with
 | nil=>cases rel;exact .nil
 | @cons x kv el' vs' h1 h2 h3 ih =>
   cases rel with
   | @cons p _ ps _ hpq ht =>
     refine .cons ?_ (ih (fun q hq=>hi q (qb0 _ hq)) ht (fun e he=>hk' e (qb0 _ he)));obtain⟨i,hpi⟩:=hi p qb2;obtain⟨k',g1,g2⟩:=hk' x qb2;have ek:kv.1=k':=(mixKind X.prog X.w).inj _ _ _ h1 g1;have ep:p.1=kv.1:=hpq.1;refine⟨(show RelV (kV p.1) x.key by rw[ep];exact NP h1),(show RelV p.2 x.val by rw[h2];exact hpq.2),(show x.hash=hsh (kV p.1) from ?_)⟩;rw[g2,←ek,←ep,hpi];rfl
end
section
variable{prog:Program}{w:World}{A:Around}{E:Value->Shared->Prop}{s:Shared}
def X6{d:Addr}{o:Obj}{es:Array DictEntry}{ep:Nat}{Q:Value->Shared->Prop}(hs:(d==sysModules)=false)(ho:s.heap.get? d=some o)(hx:o.ExactDict)(hd:o.data=.dict es ep)
 (h:Q (.ref s.heap.objs.size) { s with heap:=s.heap.push { cls:=.type "dict_items",data:=.fields #[.ref d] } }):wpAny (model prog w) A (call (.builtin "dict.items") [.ref d]) Q E s:=by
 have hT:s.TypeIs (.ref d) "dict":=⟨o,ho,hx.1⟩
 refine qf5 qj3 hT PySem.F.entry_dict_items ?_ (PySem.F.args_dict_items_1 _);unfold Builtin.«dict.items»;refine qa1 ?_;unfold Builtin.Dict.noArgs;refine qa1 (qk6 hT (show wpAny _ _ (pure d) _ _ s from qa6 ?_));show wpAny _ _ (Builtin.Dict.showsAll d>>=_) _ _ s;unfold Builtin.Dict.showsAll;rw[if_neg (by rw[hs];decide)];exact qa1 (qa6 (qa1 (qg0 (qa6 ⟨_,rfl,h⟩))))
def aX{v d:Addr}{o:Obj}{es:Array DictEntry}{ep:Nat}{Q:Value->Shared->Prop}(hv:s.heap.IsItemsView v d)(ho:s.heap.get? d=some o)(hd:o.data=.dict es ep)
 (h:Q (.ref s.heap.objs.size) { s with heap:=s.heap.push { cls:=.type "dict_itemiterator",data:=.fields #[.none,.bool false,.ref d,.int 0 0,.int es.size 0,.int ep 0,.none,.none] } }) :
 wpAny (model prog w) A (pyIter (.ref v)) Q E s:=by
 have hT:=hv.typeIs;obtain⟨ov,hov,hcv,zK⟩:=hv;refine wpAny_pyIter_slot hT F.slot_dict_items_iter (qf5 F.slot_dict_items_iter hT F.entry_dict_items_iter ?_ (F.args_dict_items_iter_1 _));unfold Builtin.«dict_items.__iter__»;refine qa1 (qa6 (qa1 ?_));unfold Builtin.Dict_items.dictOf;refine qa1 (qg7 hov zK (x:=.ref d) rfl (qa6 (qa1 ?_)));unfold Builtin.Dict_items.newIterator;refine qa1 (qf6 ho hd (qa1 (qk8 ho hd ?_)));simp only[show Builtin.Dict_items.ownsTuple "dict_itemiterator"=true by decide,if_true]
 refine qg0 (qa6 ⟨_,rfl,"dict_itemiterator",_,⟨_,qb3 _ rfl,rfl⟩,qk1.lookup,?_⟩)
  (by simp only[sizeOk,Builtin.Dict_items.ownedTupleFields,qc1,qd1,qd9,qf7,sizeLine_eq];omega)
 simpa[rawInt,Builtin.Dict_items.ownedTupleFields]using h
def LU{it d:Addr}{i ep:Nat}{o:Obj}{es:Array DictEntry}{ok ov:Value}{Q:Option Value->Shared->Prop}(hit:IsItemIter s.heap it d i es.size ep ok ov)(ho:s.heap.get? d=some o)(hd:o.data=.dict es ep)(hi:i<es.size)
 (h:∀h',IsItemIterOut h' it d (i+1) es.size ep es[i].key es[i].val s.heap.objs.size->h'.get? s.heap.objs.size=some { cls:=.type "tuple",data:=.seq #[es[i].key,es[i].val] }->h'.objs.size=s.heap.objs.size+1 →
   (∀b o,b≠it->s.heap.get? b=some o->h'.get? b=some o)->Q (some (.ref s.heap.objs.size)) { s with heap:=h' }):wpAny (model prog w) A (pyNext (.ref it)) Q E s:=by
 obtain⟨hp,g,dr,tk,os⟩:=s;have hT:Shared.TypeIs ⟨hp,g,dr,tk,os⟩ (.ref it) "dict_itemiterator":=⟨_,hit,rfl⟩
 unfold pyNext;refine qa1 (wpAny_attempt (wpAny_callSpecial?_slot (name:=Str.ofString "__next__") hT qk1 (qf5 qk1 hT F.entry_dict_itemiterator_next ?_ (F.args_dict_itemiterator_next_1 _))));refine qa1 (qa6 (qa1 (qa1 ?_)))
 first | refine qa1 (qj9 hT (qa6 (qa1 (qt1 hit rfl ?_)))) | refine qa1 (ql7 hT (qa6 (qa1 (qt1 hit rfl ?_))))
 simp only[show Builtin.Dict_items.ownsTuple "dict_itemiterator"=true by decide,if_true];show wpAny _ _ (if (Value.ref d==Value.none)=true then _ else _) _ _ _;have nz:¬(Value.ref d==Value.none)=true:=qc2;rw[if_neg nz];refine qa1 (qa6 (qa1 (qf6 ho hd ?_)));rw[if_neg (by simp)];refine qa1 (qa6 (qa1 (qk8 ho hd ?_)));rw[if_neg (by simp)];refine qa6 ?_;simp only[show ¬((i:Int)<0) from by omega,if_false,qd0,ql0 hi];refine qa1 ?_
 first | refine qa1 (qj9 hT (qa6 (qa1 (qn1 hT ?_)))) | refine qa1 (ql7 hT (qa6 (qa1 (qn1 hT ?_))))
 show wpAny _ _ (setField (.ref it) 3 (rawInt ((i:Int)+1))>>=_) _ _ ⟨hp,g,dr,tk,os⟩;refine qa1 (qg2 hit (by simp) fun g1 q1 k1=>?_)
 replace k1:Heap.SameBut it hp g1:=k1
 replace q1:IsItemIter g1 it d (i+1) es.size ep ok ov:=by
  have e:((i+1:Nat):Int)=(i:Int)+1:=by omega
  unfold IsItemIter;rw[e];simpa[rawInt]using q1
 have hT1:Shared.TypeIs ⟨g1,g,dr,tk,os⟩ (.ref it) "dict_itemiterator":=⟨_,q1,rfl⟩
 refine qa1 (qf3 (qa1 (qn1 hT1 (qa1 (qn1 hT1 ?_)))));show wpAny _ _ (Builtin.Dict_items.pairFromOwner (.ref it) 6 es[i].key es[i].val) _ _ ⟨g1,g,dr,tk,os⟩;unfold Builtin.Dict_items.pairFromOwner;refine qa1 (wpAny_newTuple ?_);have q2:IsItemIter (g1.push { cls:=.type "tuple",data:=.seq #[es[i].key,es[i].val] }) it d (i+1) es.size ep ok ov:=qa4 _ q1;have z1:g1.objs.size=hp.objs.size:=k1.1;have il:it<hp.objs.size:=qa9 hit;have t2:(g1.push { cls:=.type "tuple",data:=.seq #[es[i].key,es[i].val] }).get? hp.objs.size=some { cls:=.type "tuple",data:=.seq #[es[i].key,es[i].val] }:=by rw[←z1];exact qb3 _ rfl
 have z2:(g1.push { cls:=.type "tuple",data:=.seq #[es[i].key,es[i].val] }).objs.size=hp.objs.size+1:=by rw[qj0,z1]
 have k2:∀b o,b≠it->hp.get? b=some o->(g1.push { cls:=.type "tuple",data:=.seq #[es[i].key,es[i].val] }).get? b=some o:=fun b o hb e=>qa4 _ (k1.extBut b o hb e);generalize g1.push { cls:=.type "tuple",data:=.seq #[es[i].key,es[i].val] }=g2 at q2 t2 z2 k2;show wpAny _ _ (Builtin.Dict_items.ownedTupleIsFree (.ref it)>>=_) _ _ ⟨g2,g,dr,tk,os⟩;rw[z1];refine qa1 ?_;unfold Builtin.Dict_items.ownedTupleIsFree;refine qa1 (qg7 q2 rfl (x:=.none) rfl (qa6 ?_));simp only[if_true];refine qa1 (qg7 q2 rfl (x:=ok) rfl (qa1 (qg7 q2 rfl (x:=ov) rfl ?_)));refine qa1 (qg2 q2 (by simp) fun g3 q3 k3=>?_)
 replace k3:Heap.SameBut it g2 g3:=k3
 replace q3:IsItemIter g3 it d (i+1) es.size ep es[i].key ov:=q3
 refine qa1 (qg2 q3 (by simp) fun g4 q4 k4=>?_)
 replace k4:Heap.SameBut it g3 g4:=k4
 replace q4:IsItemIter g4 it d (i+1) es.size ep es[i].key es[i].val:=q4
 refine qa1 (qg2 q4 (by simp) fun g5 q5 k5=>?_)
 replace k5:Heap.SameBut it g4 g5:=k5
 replace q5:IsItemIterOut g5 it d (i+1) es.size ep es[i].key es[i].val hp.objs.size:=q5
 refine qa1 (qg2 q5 (by simp) fun g6 q6 k6=>?_)
 replace k6:Heap.SameBut it g5 g6:=k6
 replace q6:IsItemIterOut g6 it d (i+1) es.size ep es[i].key es[i].val hp.objs.size:=q6
 have up:∀b o,b≠it->g2.get? b=some o->g6.get? b=some o:=fun b o n e=>k6.extBut b o n (k5.extBut b o n (k4.extBut b o n (k3.extBut b o n e)));refine qa1 (qk7 (qa6 (qa6 ⟨_,rfl,qa6 (h g6 q6 (up _ _ (qi5 il) t2) ?_ fun b o n e=>up b o n (k2 b o n e))⟩)));show g6.objs.size=hp.objs.size+1;rw[k6.1,k5.1,k4.1,k3.1,z2]
def qB{it d:Addr}{i ep:Nat}{o:Obj}{es:Array DictEntry}{ok ov:Value}{Q:Option Value->Shared->Prop}(hh:A.handled=none)(hit:IsItemIter s.heap it d i es.size ep ok ov)(ho:s.heap.get? d=some o)(hd:o.data=.dict es ep)(hi:es.size<=i)
 (h:∀h',Heap.ExtBut it s.heap h'->Q none { s with heap:=h' }):wpAny (model prog w) A (pyNext (.ref it)) Q E s:=by
 have hT:s.TypeIs (.ref it) "dict_itemiterator":=⟨_,hit,rfl⟩
 unfold pyNext;refine qa1 (wpAny_attempt (wpAny_callSpecial?_slot (name:=Str.ofString "__next__") hT qk1 (qf5 qk1 hT F.entry_dict_itemiterator_next ?_ (F.args_dict_itemiterator_next_1 _))));refine qa1 (qa6 (qa1 (qa1 ?_)))
 first | refine qa1 (qj9 hT (qa6 (qa1 (qt1 hit rfl ?_)))) | refine qa1 (ql7 hT (qa6 (qa1 (qt1 hit rfl ?_))))
 simp only[show Builtin.Dict_items.ownsTuple "dict_itemiterator"=true by decide,if_true];show wpAny _ _ (if (Value.ref d==Value.none)=true then _ else _) _ _ s;have nz:¬(Value.ref d==Value.none)=true:=qc2;rw[if_neg nz];refine qa1 (qa6 (qa1 (qf6 ho hd ?_)));rw[if_neg (by simp)];refine qa1 (qa6 (qa1 (qk8 ho hd ?_)));rw[if_neg (by simp)];refine qa6 ?_;simp only[show ¬((i:Int)<0) from by omega,if_false,qd0,Array.getElem?_eq_none hi];refine qa1 ?_
 first | refine qa1 (qj9 hT (qa6 ?_)) | refine qa1 (ql7 hT (qa6 ?_))
 show wpAny _ _ (setField (.ref it) 2 .none>>=_) _ _ s;refine qa1 (wpAny_setField hit rfl (by simp) ?_);show wpAny _ _ (newExc (.type "StopIteration") []>>=_) _ _ _;refine qa1 ?_;simp only[newExc,newTuple];refine qa1 (qg0 (qa1 (m:=firstArgMember _ _) (wpAny_of_eq (a:=Value.none) (by first | rfl | (simp only[firstArgMember];rfl)) (qg0 ?_ (by size_fits)))) (by size_fits));simp only[raiseNew];refine qa1 (wpAny_handled ?_);rw[show A.in1.handled=none from hh];refine qa1 (qa6 (wpAny_throw ?_));refine qa1 (qn7 (T:="StopIteration") (b:=true) ⟨_,qb3 _ rfl,rfl⟩ isSubtype_stop (qa6 ?_));exact(h _ (((qo7 ..).extBut.push _).push _))
end
noncomputable def ItmX(d:Addr)(o:Obj)(kvs:List (V × V)):It :=
 ⟨fun i H=>H d=some (XO d o)/\i<kvs.length,
  fun i H x H'=>∃p k v,H p=none/\x=.ref p/\H'=upd H p (.tup [k,v])/\kvs[i]?=some (k,v),
  fun i H=>H d=some (XO d o)/\kvs.length<=i⟩
def lK{P:Program}{w:World}{K:W.Frag}{tP:List Expr}{x1:Nat}{tpos:Pos}(d it:Addr)(o:Obj){es:Array DictEntry}{ep:Nat}{kvs:List (V × V)}(hd:o.data=.dict es ep)(hE:WS kvs es.toList) :
 Xt P w K (.Tuple tP x1 tpos) (ItmX d o kvs) [it] it (fun i h=>∃ok ov,IsItemIter h it d i es.size ep ok ov) where
 mem:=by simp
 obj:=fun i h st b hb=>by
  obtain⟨ok,ov,h1⟩:=st;have z:b=it:=by simpa using hb
  subst z;exact⟨_,h1,fun v q=>by cases (show Data.fields _=Data.cell v from q)⟩
 keep:=fun i h h' st k=>by
  obtain⟨ok,ov,h1⟩:=st;exact⟨ok,ov,k it (by simp) _ h1⟩
 item:=by
  intro X hP hw hK hc i Ac s σ H E I hf st hg;subst hP hw hK;obtain⟨ok,ov,hit⟩:=st;obtain⟨hz,hi⟩:=hg;have ho:=Lg I hz;have hl:kvs.length=es.size:=by simpa using qo2 hE
  have sO:i<es.size:=by omega
  obtain⟨e,he1,rk,rv,_⟩:=hE.get (i:=i) (p:=kvs[i]) (qa0 hi)
  have he2:es[i]=e:=by
   rw[qa0 (by simpa using sO)]at he1;simpa using he1
  subst he2;have xW:it<s.heap.objs.size:=qa9 hit;have hfresh:H s.heap.objs.size=none:=I.hok.fresh (qa8 _);refine LU hit ho hd sO fun h' hout htup hsz' hk=>?_;refine⟨_,rfl,wpAny_letOwnedTupleGo_items hout fun h3 hen Th=>?_⟩
  replace Th:Heap.SameBut it h' h3:=Th
  have kk:∀b ob,b ∉ [it]->s.heap.get? b=some ob->h3.get? b=some ob:=fun b ob n z=>by
   have n1:b≠it:=by simpa using n
   exact(Th.2 b n1).trans (hk b ob n1 z)
  have vF:h3.get? s.heap.objs.size=some { cls:=.type "tuple",data:=.seq #[es[i].key,es[i].val] }:=(Th.2 _ (qi5 xW)).trans htup;have AI:∀c ob,H c=some ob->c ∉ [it]:=fun c ob e hm=>by rw[(hf c hm).1]at e;cases e
  have Uu:∀b ob,H b=some ob->b≠s.heap.objs.size:=fun b ob z=>Ap z hfresh;refine⟨.ref s.heap.objs.size,upd H s.heap.objs.size (.tup [kvs[i].1,kvs[i].2]),?_,rfl,⟨s.heap.objs.size,_,_,hfresh,rfl,rfl,qa0 hi⟩,⟨_,_,hen⟩,fun b hb=>?_⟩
  . refine Inv.step (s:=s) (h':=h3) (t':=s.toks) (H':=upd H s.heap.objs.size (.tup [kvs[i].1,kvs[i].2])) I (g':=s.gens) (d':=s.drawn) (ch:=[it]) (fun b hb=>?_) (fun b ob _ _ hb z _=>kk b ob hb z) (fun b ob _ _ hb z _=>⟨ob.slots,kk b ob hb z⟩) (fun b ob hb z n=>?_) (fun b ob hb z=>⟨ob,kk b ob hb z⟩)
     (fun b ys z=>by rw[Ai (Uu b _ z)];exact z) (fun b ob w' z=>by rw[Ai (Uu b _ z)];exact z) (fun b ps z=>⟨#[],by rw[Ai (Uu b _ z),z];simp⟩) (fun m hm=>?_) (fun b w' z=>?_) I.bare
    . have f:=hf b hb;exact⟨f.2.2.2.1,f.2.1,f.2.2.2.2.1,f.2.2.2.2.2⟩
    . rw[Ai (qb8 (qa9 z))];exact n
    . obtain⟨ob,es',oF,hob,r⟩:=hm;exact⟨ob,es',oF,kk _ ob (fun q=>(hf _ q).2.1 rfl) hob,r⟩
    . by_cases hb:b=s.heap.objs.size
      . subst hb;rw[Ab]at z;cases z;exact⟨(by show(2:Nat)<=sizeLine;decide),[es[i].key,es[i].val],.cons rk (.cons rv .nil),⟨_,vF,rfl,rfl,_,rfl⟩⟩
      . rw[Ai hb]at z;refine(I.hok b w' z).stay (fun c y hc' q=>?_) (fun c q=>by rw[Ai (Uu c _ q)];exact q) fun c ys q=>by rw[Ai (Uu c _ q)];exact q
        rcases hc' with rfl | hc'
        . exact kk _ _ (AI _ _ z) q
        . exact kk _ _ (AI _ _ hc') q
  . have z:b=it:=by simpa using hb
    subst z;rw[Ai (qb8 xW)];exact(hf b hb).1
 done:=by
  intro X hP hw hK hc i Ac s σ H E I hf st hg;subst hP hw hK;obtain⟨ok,ov,hit⟩:=st;obtain⟨hz,hx⟩:=hg;have ho:=Lg I hz;have hl:kvs.length=es.size:=by simpa using qo2 hE
  exact qB (I.ok.hd hc) hit ho hd (by omega) fun h' eb=>⟨rfl,I.turnedN (t':=s.toks) (fp:=[it]) (fun b ob hb z=>eb b ob (by simpa using hb) z) hf⟩
 self:=fun _ _ _ _ _ st h=>by
  obtain⟨ok,ov,hit⟩:=st;exact L6 hit h
def RA(td:TE):TI:=fun σ H R=>td σ H fun x H1=>(∃d o kvs,x=.ref d/\H1 d=some (.frz o (.dK kvs))/\R (RU d o) H1) ∨
 ∃d o kvs,x=.ref d/\(d==sysModules)=false/\H1 d=some (XO d o)/\OddObj o kvs/\R (ItmX d o kvs) H1
def X8{X:Cx}{tP:List Expr}{x1:Nat}{tpos apos cpos:Pos}{e:Expr}{td:TE}(he:PE X e td)
 (hbase:attributeBase e "items" X.env (eval e X.env)=eval e X.env:=by rfl) (hline:(apos.endLine==cpos.line)=true:=by rfl):PI X (.Tuple tP x1 tpos) (.Call (.Attribute e "items" apos) [] [] cpos) (RA td):=by
 intro Ac s σ H R I h;refine qq8 hbase hline (Cz (he Ac s σ H _ I h) fun v s1 _z=>?_);obtain⟨x,H1,I1,r1,hq⟩:=_z;rcases hq with⟨d,o,kvs,ex,hz,q⟩|⟨d,o,kvs,ex,hsys,hz,hO,q⟩
 . subst ex;obtain rfl:v=Value.ref d:=r1;obtain⟨ho,hsys,hl,vs,es,ep,rel,hd,hsz,pM,hm⟩:=u5 I1 hz;refine⟨"dict","dict.items",qh6,qj3,qo8,⟨o,ho,pM.1⟩,fun b e=>by cases e;exact⟨o,ho,pM.2.1⟩,qg5 rfl (qn4 ?_)⟩;refine X6 hsys ho pM hd ?_;have I2:Inv X Ac σ H1 { s1 with heap:=s1.heap.push { cls:=.type "dict_items",data:=.fields #[.ref d] } }:=I1.kept (t':=s1.toks) fun b ob z=>qa4 _ z;refine aX (s:={ s1 with heap:=s1.heap.push { cls:=.type "dict_items",data:=.fields #[.ref d] } }) (v:=s1.heap.objs.size) (d:=d) ⟨_,qb3 _ rfl,rfl,rfl⟩ (qa4 _ ho) hd ?_;refine⟨_,[_],_,RU d o,H1,rfl,I2.kept (t':=s1.toks) fun b ob z=>qa4 _ z,Ua d _ o hd,⟨.none,.none,qb3 _ rfl⟩,fun b hb=>?_,q⟩;have z:b=(s1.heap.push { cls:=.type "dict_items",data:=.fields #[.ref d] }).objs.size:=by simpa using hb
   subst z;exact I2.fpOk (qa8 _) (I2.hok.fresh (qa8 _))
 . subst ex;obtain rfl:v=Value.ref d:=r1;obtain⟨pM,es,ep,hd,hE⟩:=hO;have ho:=Lg I1 hz;refine⟨"dict","dict.items",qh6,qj3,qo8,⟨o,ho,pM.1⟩,fun b e=>by cases e;exact⟨o,ho,pM.2.1⟩,qg5 rfl (qn4 ?_)⟩;refine X6 hsys ho pM hd ?_;have I2:Inv X Ac σ H1 { s1 with heap:=s1.heap.push { cls:=.type "dict_items",data:=.fields #[.ref d] } }:=I1.kept (t':=s1.toks) fun b ob z=>qa4 _ z;refine aX (s:={ s1 with heap:=s1.heap.push { cls:=.type "dict_items",data:=.fields #[.ref d] } }) (v:=s1.heap.objs.size) (d:=d) ⟨_,qb3 _ rfl,rfl,rfl⟩ (qa4 _ ho) hd ?_;refine⟨_,[_],_,ItmX d o kvs,H1,rfl,I2.kept (t':=s1.toks) fun b ob z=>qa4 _ z,lK d _ o hd hE,⟨.none,.none,qb3 _ rfl⟩,fun b hb=>?_,q⟩;have z:b=(s1.heap.push { cls:=.type "dict_items",data:=.fields #[.ref d] }).objs.size:=by simpa using hb
   subst z;exact I2.fpOk (qa8 _) (I2.hok.fresh (qa8 _))
section
variable{X:Cx}{o i e value:Expr}{pos pos' tpos:Pos}{td ty tv:TE}
def Sf{K:W.Frag}(hK:X.K=K:=by rfl):CallR X (.builtin "isinstance") (fun xs H Q=>∃x n,xs=[x,.ty n]/\(n="int"\/n="bool"\/n="str"\/n="tuple"\/n="list"\/n="dict") ∧
 ((∃d,YX K H x d/\Q (.bl (isA n d)) H)\/(∃a kvs,x=.ref a/\OddAt H a kvs/\Q (.bl (n=="dict")) H)\/∃a us,x=.ref a/\H a=some (.lst us)/\Q (.bl (n=="list")) H)):=by
 intro Ac s σ H xs us Q I r h;obtain⟨x,n,e,hn,h⟩:=h;rcases h with⟨d,hx,q⟩|⟨a,kvs,rfl,⟨hs,ob,ha,hO⟩,q⟩|⟨a,vs,rfl,ha,q⟩
 . exact Za hK Ac s σ H xs us Q I r ⟨x,n,d,e,hn,hx,q⟩
 . subst e;obtain⟨u,v,rfl,rx,rt⟩:=Op r;cases rt;cases rx;have ho:=Lg I ha;have ex:=hO.1;rcases hn with rfl | rfl | rfl | rfl | rfl | rfl
   . exact PySem.IsiPair.dict_int ho ex.1 ⟨.bl false,H,I.tok _,rfl,q⟩
   . exact PySem.IsiPair.dict_bool ho ex.1 ⟨.bl false,H,I.tok _,rfl,q⟩
   . exact PySem.IsiPair.dict_str ho ex.1 ⟨.bl false,H,I.tok _,rfl,q⟩
   . exact PySem.IsiPair.dict_tuple ho ex.1 ⟨.bl false,H,I.tok _,rfl,q⟩
   . exact PySem.IsiPair.dict_list ho ex.1 ⟨.bl false,H,I.tok _,rfl,q⟩
   . exact PySem.IsiPair.dict_dict ho ex.1 ⟨.bl true,H,I,rfl,q⟩
 . subst e;obtain⟨u,v,rfl,rx,rt⟩:=Op r;cases rt;cases rx;obtain⟨_,its,m,_,ho⟩:=(show ObjOk X.prog X.w H s.heap a (.lst vs) from I.hok a _ ha)
   rcases hn with rfl | rfl | rfl | rfl | rfl | rfl
   . exact PySem.IsiPair.list_int ho rfl ⟨.bl false,H,I.tok _,rfl,q⟩
   . exact PySem.IsiPair.list_bool ho rfl ⟨.bl false,H,I.tok _,rfl,q⟩
   . exact PySem.IsiPair.list_str ho rfl ⟨.bl false,H,I.tok _,rfl,q⟩
   . exact PySem.IsiPair.list_tuple ho rfl ⟨.bl false,H,I.tok _,rfl,q⟩
   . exact PySem.IsiPair.list_list ho rfl ⟨.bl true,H,I,rfl,q⟩
   . exact PySem.IsiPair.list_dict ho rfl ⟨.bl false,H,I.tok _,rfl,q⟩
def cQ{g:TG}{tc:TT}{te:TE}{D:Addr}{Q:Hp->Prop}{τ:St}{H:Hp}{d:Addr}{o:Obj}{kvs:List (V × V)}(Pv:Nat->List V->St->Hp->Prop)(h0:Pv 0 [] τ H)(hl:∀i zs τ H,i<=kvs.length->Pv i zs τ H->H d=some (XO d o))
 (hs:∀i k v zs τ H p,kvs[i]?=some (k,v)->Pv i zs τ H->H p=none->g (.ref p) τ (upd H p (.tup [k,v])) fun τ2 H2=>tc τ2 H2 fun b H3=>if b=true then te τ2 H3 fun y H4=>H4 D=some (.lst zs)/\zs.length<sizeLine/\Pv (i+1) (zs++[y]) τ2 (upd H4 D (.lst (zs++[y]))) else Pv (i+1) zs τ2 H3)
 (hd:∀zs τ H,Pv kvs.length zs τ H->Q H):Tm (ItmX d o kvs) g tc te D Q τ H:=by
 refine⟨fun i m zs τ H=>m=kvs.length-i/\i<=kvs.length/\Pv i zs τ H,⟨kvs.length,by simp,qb6 _,h0⟩,?_⟩;rintro i m zs τ H ⟨rfl,hi,pp⟩;have q:=hl i zs τ H hi pp;by_cases hlt:i<kvs.length
 . refine .inr ⟨⟨q,hlt⟩,Pv (i+1),fun ys' τ' H' p'=>⟨kvs.length-(i+1),by omega,rfl,hlt,p'⟩,fun x H' y=>?_⟩;obtain⟨p,k,v,hp,rfl,rfl,y⟩:=y;exact hs i k v zs τ _ p y pp hp
 . have e:i=kvs.length:=by omega
   subst e;exact .inl ⟨⟨q,qa8 _⟩,hd zs τ H pp⟩
end
end L2
namespace Hb
open PySem L2
def lF:V->Prop
 | .non=>True | .bl _=>True | .int _=>True | .str _=>True | _=>False
def vD:V->L2.D
 | .non=>.non | .bl b=>.bl b | .int i=>.int i | .str x=>.str x | .ref _=>.tup [.int 0] | _=>.non
def lF.rep{K:W.Frag}{H:Hp}{v:V}(h:lF v):Rep K H v (vD v):=by
 cases v<;>first | rfl | exact h.elim
def LC(H:Hp)(v:V):Prop:=lF v\/∃t,v=.ref t/\H t=some (.tup [.int 0])
theorem LC.rep{K:W.Frag}{H:Hp}{v:V}(h:LC H v):Rep K H v (vD v):=by
 rcases h with h|⟨t,rfl,ht⟩
 . exact h.rep
 . exact⟨t,[.int 0],rfl,.of ht,.int 0,[],rfl,rfl,rfl⟩
def LC.same{H H':Hp}{v:V}(s:Ah H H')(h:LC H v):LC H' v:=by
 rcases h with h|⟨t,rfl,ht⟩
 . exact .inl h
 . exact .inr ⟨t,rfl,s _ _ ht⟩
def zD:L2.D->Bool
 | .int n=>decide (¬n=0)
 | _=>false
def Ej(xs:LLInt)(k:Int)(d e:L2.D):Bool:=B8 xs d k&&zD e
def Yc{xs:LLInt}{k:Int}{d e:L2.D}(h:B8 xs d k=false):Ej xs k d e=false:=by unfold Ej;rw[h];rfl
def Yb{xs:LLInt}{k:Int}{d e:L2.D}(h:zD e=false):Ej xs k d e=false:=by unfold Ej;rw[h];simp
theorem Xx{e:L2.D}(h:D3 e=true):∃n,e=.int n:=by
 cases e with
 | int n=>exact⟨n,rfl⟩
 | _=>exact nomatch (show false=true from h)
theorem mX{e:L2.D}(h:D3 e=false):zD e=false:=by
 cases e with
 | int n=>exact nomatch (show true=false from h)
 | _=>rfl
def Ug{x:V}(h:lF x):isA "dict" (.d (vD x))=false:=by
 cases x<;>first | rfl | exact h.elim
def gJ(k:Key):lF (kV k):=by cases k<;>exact True.intro
def pB(x:List Int)(p:Int):(B7 x).any (fun e=>eqD e (.int p))=decide (p∈x):=by
 unfold B7;rw[List.any_map];by_cases h:p∈x
 . rw[qd3 h];exact qj8.mpr ⟨p,h,by simp[eqD]⟩
 . rw[qe3 h];rw[qo6];intro y hy;have:y≠p:=fun e=>h (e▸hy);simpa[eqD]using this
def lT{K:W.Frag}{H:Hp}{l:Addr}{ns:List Int}(h:SqL K H l (ns.map V.int)):WE K H (.ref l) (B7 ns):=.inl ⟨l,_,rfl,h,Gc.mpr rfl⟩
inductive TT where
 | data (d:L2.D) | lst | dk (kvs:List (Key × V)) | odd (kvs:List (V × V))
def Qq(H:Hp)(x:V):TT->Prop
 | .data d=>lF x/\d=vD x
 | .lst=>∃a us,x=.ref a/\H a=some (.lst us)
 | .dk kvs=>∃a,x=.ref a/\H a=some (.dK kvs)/\kvs.length<=1000/\∀p∈kvs,lF p.2
 | .odd kvs=>∃a,x=.ref a/\OddAt H a kvs/\kvs.length<=1000/\∀p∈kvs,LC H p.1/\lF p.2
def OddAt.same{H H':Hp}{a:Addr}{kvs:List (V × V)}(s:Ah H H')(h:OddAt H a kvs):OddAt H' a kvs:=by
 obtain⟨h1,o,h2,h3⟩:=h;exact⟨h1,o,s _ _ h2,h3⟩
theorem Qq.same{H H':Hp}{x:V}{t:TT}(s:Ah H H')(h:Qq H x t):Qq H' x t:=by
 cases t with
 | data d=>exact h
 | lst=>obtain⟨a,us,e,h⟩:=h;exact⟨a,us,e,s _ _ h⟩
 | dk kvs=>obtain⟨a,e,h,r⟩:=h;exact⟨a,e,s _ _ h,r⟩
 | odd kvs=>obtain⟨a,e,h,l,r⟩:=h;exact⟨a,e,OddAt.same s h,l,fun p hp=>⟨(r p hp).1.same s,(r p hp).2⟩⟩
def Dr(xs:LLInt)(k:Int):TT->Bool
 | .data _=>false
 | .lst=>false
 | .dk kvs=>kvs.all fun p=>Ej xs k (vD (kV p.1)) (vD p.2)
 | .odd kvs=>kvs.all fun p=>Ej xs k (vD p.1) (vD p.2)
def Ik(xs:LLInt)(k:Int)(ms:Ms):Dr xs k (.dk (cK ms))=C5 xs k ms:=by
 show((cK ms).all fun p=>Ej xs k (vD (kV p.1)) (vD p.2))=C5 xs k ms;unfold C5 cK;rw[qt5];rfl
def Gu{H:Hp}{b:Addr}{ms:Ms}(h:H b=some (.dK (cK ms)))(hl:ms.length<=1000):Qq H (.ref b) (.dk (cK ms)):=by
 refine⟨b,rfl,h,by rw[Hg];exact hl,fun p hp=>?_⟩;unfold cK at hp;obtain⟨q,_,rfl⟩:=qd8.mp hp;exact True.intro
section
variable(K:W.Frag)
def Mj:Sp:=fun vs H Q _=>∃(a:Addr) (xs:LLInt) (k:Int) (x y:V) (d e:L2.D),vs=[.ref a,.int k,x,y]/\LT K H (.ref a) xs/\Rep K H x d/\Rep K H y e/\Q (.bl (Ej xs k d e)) H
end
theorem aW{K:W.Frag}{H:Hp}:∀bs:List Bool,Reps K H (bs.map V.bl) (bs.map L2.D.bl)
 | []=>rfl
 | b::bs=>⟨.bl b,bs.map V.bl,rfl,rfl,aW bs⟩
theorem cE:∀bs:List Bool,deps (bs.map L2.D.bl)=0
 | []=>rfl
 | b::bs=>by show max (dep (.bl b)) (deps (bs.map L2.D.bl))=0;rw[cE bs];rfl
def qA{K:W.Frag}{H:Hp}{a:Addr}{bs:List Bool}(h:H a=some (.lst (bs.map V.bl))):Rep K H (.ref a) (.lst (bs.map L2.D.bl)):=⟨a,_,rfl,.of h,aW bs⟩
noncomputable def Mw(n:Nat):List Bool:=(List.range 16).map fun k=>decide (k=0) || decide (k=n)
def BC(n:Int):List Bool:=(List.range 16).map fun(k:Nat)=>(B7 [0,n]).any fun e=>eqD e (.int (k:Int))
def Ye(n:Nat):BC (n:Int)=Mw n:=by
 unfold BC Mw;refine qg4 fun k _=>?_;simp only[B7,qc6,qj1,qh8,qt4,eqD,qs4];rw[qh4];simp;omega
section
variable(K:W.Frag)
def Q4(_K:W.Frag):Sp:=fun vs H Q _=>∃(n:Int),vs=[.int n]/\∀(M:Addr) (H':Hp),Ah H H'->H' M=some (.lst ((BC n).map V.bl))->Q (.ref M) H'
end
end Hb
namespace L2
open PySem PySem.Spec PyProof.Rows
noncomputable abbrev Cx.quiet(X:Cx):Cx:={ X with xe:=fun _ _=>False }
section
variable{X:Cx}{Ac:LAObj}{σ:St}{H:Hp}{s:Shared}
theorem Cx.Ok.quiet(o:X.Ok):X.quiet.Ok:=⟨o.mod,o.kind,o.glob,o.blt,o.above,o.inj,o.has,o.cab,o.hd,o.frames,o.stk,o.exf,o.bs,o.bsz,o.noex,o.exfs,o.funs,o.frf⟩
def Cx.Ok.loud(o:X.quiet.Ok):X.Ok:=⟨o.mod,o.kind,o.glob,o.blt,o.above,o.inj,o.has,o.cab,o.hd,o.frames,o.stk,o.exf,o.bs,o.bsz,o.noex,o.exfs,o.funs,o.frf⟩
def Inv.toQuiet(I:Inv X Ac σ H s):Inv X.quiet Ac σ H s:=⟨I.ok.quiet,I.os,I.bare,I.base,I.loc,I.cell,I.free,I.freeC,I.pin,I.hok,I.len⟩
theorem Inv.loud(I:Inv X.quiet Ac σ H s):Inv X Ac σ H s:=⟨I.ok.loud,I.os,I.bare,I.base,I.loc,I.cell,I.free,I.freeC,I.pin,I.hok,I.len⟩
theorem LY{st:Stmt}{t:TS}(h:PS X.quiet st t):PS X st t:=by
 intro Ac s σ H D I hw;refine qe2 (h Ac s σ H D I.toQuiet hw) (fun f s' hq=>?_) fun _ _ x=>x.elim;cases f with
 | next=>obtain⟨σ',H',I2,q⟩:=hq;exact⟨σ',H',I2.loud,q⟩
 | brk=>obtain⟨σ',H',I2,q⟩:=hq;exact⟨σ',H',I2.loud,q⟩
 | cont=>obtain⟨σ',H',I2,q⟩:=hq;exact⟨σ',H',I2.loud,q⟩
 | ret u=>obtain⟨v,σ',H',I2,r,q⟩:=hq;exact⟨v,σ',H',I2.loud,r,q⟩
end
section
variable{prog:Program}{w:World}{A:Around}{E:Value->Shared->Prop}{s:Shared}
end
section
variable{X:Cx}{K:W.Frag}
end
section
variable{X:Cx}{A:Around}{E:Value->Shared->Prop}{Ac:LAObj}{σ:St}{H:Hp}{s:Shared}{a:Addr}{o:Obj}{kvs:List (V × V)}{y v:V}{u r:Value}
def MO{Q:Unit->Shared->Prop}(hu:A.units<cLine)(I:Inv X Ac σ H s)(mu:Mut (H a))(ho:s.heap.get? a=some o)(hO:OddObj o kvs)(k:IsKey H y)(ry:RelV y u)(rv:RelV v r)(hne:∀p∈kvs,hsh p.1≠hsh y)(hl:kvs.length<sizeLine)
 (h:∀o' s',OddObj o' (kvs++[(y,v)])->Inv X Ac σ (upd H a (XO a o')) s'->Q () s'):wpAny (model X.prog X.w) A (dictSet a u r) Q E s:=by
 obtain⟨hx,es,ep,hd,hE⟩:=hO;have kv:=k.val ry;unfold dictSet
 try with_reducible refine qf3 ?_
 refine qa1 (RG hu I k ry fun tk=>?_);unfold dictSetHashed
 try with_reducible refine qf3 ?_
 have hmem:=hE.mem;refine qa1 (CB (s:={ s with toks:=tk }) kv ho hd (fun e he q=>?_) (fun e he q=>?_) ?_)
 . obtain⟨p,hp,_,h2⟩:=hmem e (qn3.mpr he);exact hne p hp (h2.symm.trans q)
 . obtain⟨p,hp,h1,h2⟩:=hmem e (qn3.mpr he);rw[q]at h1;exact hne p hp (by rw[RelV.inj h1 ry])
 . have hsz:es.size=kvs.length:=by
    have:=qo2 hE;simpa using this.symm
   refine qa1 (wpAny_rule ?_);refine wpAny_updateDictKeys (hz:=by omega) (s:={ s with toks:=tk }) ho hd ?_;refine h (o.mapDictKeys fun es=>es.push ⟨hsh y,u,r⟩) _ ⟨hx.mapDictKeys _,_,ep+1,Obj.data_mapDictKeys hd _,?_⟩ ?_
   . rw[Array.toList_push];exact Paired.snoc hE ⟨ry,rv,rfl⟩
   . have hg:=qf9 (h:=s.heap) (a:=a) (fun o=>o.mapDictKeys fun es=>es.push ⟨hsh y,u,r⟩) ho (Obj.isFreed_of_dict (Obj.data_mapDictKeys hd _));exact Oa (I.tok tk) mu (qo7 ..) ⟨_,hg⟩ (RV hg)
end
def tDispO(tk tv:TE):TE:=fun σ H Q=>∀p,H p=none->tPairs [(tk,tv)] σ (upd H p (.dK [])) fun ps H2=>∃y v,ps=[(y,v)]/\H2 p=some (.dK [])/\IsKey H2 y/\∀o,(p==sysModules)=false->OddObj o [(y,v)]->Q (.ref p) (upd H2 p (XO p o))
theorem MI{X:Cx}{pos:Pos}{k v:Expr}{tk tv:TE}(hu:X.A.units+1<cLine)(hk:PE X k tk)(hv:PE X v tv):PE X (.Dict [some k] [v] pos) (tDispO tk tv):=by
 intro Ac s σ H Q I q;have hn:=I.hok.fresh (qa8 s.heap.objs.size);have I1:=I.laid (a:=s.heap.objs.size) (o:=.dK []) (h':=s.heap.push { cls:=.type "dict",data:=.dict #[] }) (t':=s.toks) (fun _ _ q=>qa4 _ q) (qa8 _) (dk_empty s.heap I.big);have hp:yY X pos [some k] [v] [(tk,tv)]:=Cw hk hv Dt;rw[arm_eval_Dict,zip_pairTrees [some k] [v] X.env pos rfl rfl,dictDisplay_pairs _ (by intro z;cases z) (by show(1:Nat)<17;decide)];refine qa1 (qq7 (qa1 ?_));unfold subDict;refine qa1 (wpAny_alloc (qa1 (qf3 ?_)));rw[if_pos (by show(1:Nat)<=15;decide)];refine qa1 (Cz (hp Ac _ σ _ _ I1 (q _ hn)) fun ws s2 hh=>?_)
 . obtain⟨ps,H2,I2,rel,y,z,rfl,e,hy,q2⟩:=hh;cases rel with
   | cons h1 h2 =>
     cases h2;obtain⟨hsys,_,o,ho,hO⟩:=vW I2 e (fun p hp=>by cases hp);refine qf3 (qa1 ?_);rw[List.forIn_cons];refine qa1 (qa1 (MO (Nat.lt_of_succ_lt hu) I2 (by rw[e];exact True.intro) ho hO hy h1.1 h1.2 (fun p hp=>by cases hp) (by rw[sizeLine_eq];exact Nat.zero_lt_of_ne_zero (by decide)) fun o' s3 hO' I3=>qa6 ?_));show wpAny _ _ (forIn [] PUnit.unit _) _ _ _;rw[List.forIn_nil];exact qa6 (qa6 (qa6 (qa6 ⟨.ref s.heap.objs.size,_,I3,rfl,q2 o' hsys hO'⟩)))
end L2
namespace Hb
open PySem L2
def Ev(_K:W.Frag)(C:Addr):Sp:=fun vs H Q _=>∃(e b:Addr) (ms:Ms),vs=[.ref e,.ref b]/\H e=some (En e C)/\H b=some (.dK (cK ms))/\nd ms/\ms.length<=1000 ∧
 ∀c d,H c=none->upd H c (.dK (cK ms)) d=none->Q .non (upd (upd (upd H c (.dK (cK ms))) d (.xd [("edge",.ref c)])) e (madeE e C d))
def Z7{H H1:Hp}{e d c C:Addr}{o:HO}{fs:List (Str × V)}(s:Ah H H1)(he:H1 e=none)(hc:upd H1 e (En e C) c=none)(hd:upd (upd H1 e (En e C)) c o d=none) :
 Ah H (del (upd (upd (upd (upd H1 e (En e C)) c o) d (.xd fs)) e (madeE e C d)) e)/\del (upd (upd (upd (upd H1 e (En e C)) c o) d (.xd fs)) e (madeE e C d)) e d=some (.xd fs)/\del (upd (upd (upd (upd H1 e (En e C)) c o) d (.xd fs)) e (madeE e C d)) e c=some o:=by
 have hce:c≠e:=fun z=>by rw[z,Ab]at hc;cases hc
 have hc1:H1 c=none:=by rw[Ai hce]at hc;exact hc
 have hdc:d≠c:=fun z=>by rw[z,Ab]at hd;cases hd
 have VL:d≠e:=fun z=>by rw[z,Ai hce.symm,Ab]at hd;cases hd
 have hd1:H1 d=none:=by rw[Ai hdc,Ai VL]at hd;exact hd
 refine⟨fun b u q=>?_,by rw[R9 VL,Ai VL,Ab],by rw[R9 hce,Ai hce,Ai hdc.symm,Ab]⟩;have q1:=s b u q;rw[R9 (Ap q1 he),Ai (Ap q1 he),Ai (Ap q1 hd1),Ai (Ap q1 hc1),Ai (Ap q1 he)];exact q1
def PM(ks:List Int)(ms:Ms):Nat->Ms
 | 0=>[]
 | i+1=>E4 (PM ks ms i) (J8 ks (ms.getD i (0,0)).1) (ms.getD i (0,0)).2
def GZ(ks:List Int)(ms:Ms):Ms:=PM ks ms ms.length
theorem Yh(ks:List Int)(ms:Ms):∀i,nd (PM ks ms i)
 | 0=>qi7
 | i+1=>j5 (Yh ks ms i) _ _
theorem gQ(ks:List Int)(ms:Ms):∀i,nz (PM ks ms i)
 | 0=>fun p hp=>by cases hp
 | i+1=>eU (gQ ks ms i) _ _
theorem fB(ks:List Int)(ms:Ms):∀i,(PM ks ms i).length<=i
 | 0=>qa8 _
 | i+1=>qe5 (Tv _ _ _) (Nat.succ_le_succ (fB ks ms i))
theorem LI(φ:Int->Int)(ks:List Int)(ms:Ms):∀i,i<=ms.length->wF φ (PM ks ms i)=wF (fun p=>φ (J8 ks p)) (ms.take i)
 | 0,_=>rfl
 | i+1,h=>by
   show wF φ (E4 (PM ks ms i) (J8 ks (ms.getD i (0,0)).1) (ms.getD i (0,0)).2)=_;have hx:ms[i]?=some ms[i]:=qa0 (by omega);rw[dO φ (Yh ks ms i),LI φ ks ms i (by omega),qf0,hx,Qu];show _=_+wF _ [ms[i]];rw[Cj,Fz,qa5,hx];show _+ms[i].2*φ (J8 ks ms[i].1)=_;omega
def Hj(H:Hp)(x:V)(t:TT):Prop:=Qq H x t\/(t=.lst/\∃a,x=.ref a/\H a=some (.tup []))
theorem Hj.same{H H':Hp}{x:V}{t:TT}(s:Ah H H')(h:Hj H x t):Hj H' x t:=by
 rcases h with h|⟨e,a,e2,h⟩
 . exact .inl (h.same s)
 . exact .inr ⟨e,a,e2,s _ _ h⟩
def DG(H:Hp)(xs:LLInt)(x:V):Prop:=∃t,Hj H x t/\∀k',Dr xs k' t=false
section
variable(K:W.Frag)
def K3:Sp:=fun vs H Q _=>∃(a:Addr) (xs:LLInt) (k:Int) (x:V) (t:TT),vs=[.ref a,.int k,x]/\LT K H (.ref a) xs/\Hj H x t/\∀H',Ah H H'->Q (.bl (Dr xs k t)) H'
def Im:Sp:=fun vs H Q _=>∃(a:Addr) (x:V) (xs:LLInt) (n:Nat) (t:TT),vs=[.ref a,x,.int (n:Int)]/\LT K H (.ref a) xs/\Hj H x t/\n<=100 ∧
 ∀H',Ah H H'->Q (.bl ((List.range n).any fun(k:Nat)=>Dr xs (k:Int) t)) H'
def K1(C:Addr):Sp:=fun vs H Q E=>∃(a:Addr) (x:V) (xs:LLInt),vs=[.ref a,x]/\LT K H (.ref a) xs/\(∀z∈xs,z.length<=4) ∧
 ((∃(b:Addr) (ms:Ms) (kc:Nat),x=.ref b/\kc<4/\H b=some (.dK (cK ms))/\ms.length<=1000/\C5 xs (kc:Int) ms=true/\Xh H (Bi xs ms) Q)\/(DG H xs x/\∀H',Ah H H'->E (.ref C) none H'))
def Mh(_K:W.Frag):Sp:=fun vs H Q _=>∃(a b:Addr) (ks:List Int) (ms:Ms),vs=[.ref a,.ref b]/\H a=some (.dK (cK (Oy ks)))/\a≠b/\ks.Nodup/\H b=some (.dK (cK ms))/\ms.length<=1000/\(∀p∈ms,p.1∈ks)/\Xh H (GZ ks ms) Q
def K0(_K:W.Frag):Sp:=fun vs H Q _=>∃c:Int,vs=[.int c]/\∀v:Int,v≠0->v.natAbs<=10 ^ 20->Q (.int v) H
def Mf(_K:W.Frag):Sp:=fun vs H Q _=>∃(a:Addr) (ms:Ms),vs=[.ref a]/\H a=some (.dK (cK ms))/\ms.length<=1000/\Xh H (E3 ms) Q
def Q0(CN CR:Addr):Sp:=fun vs H Q E=>∃(a:Addr) (x:V) (xs:LLInt),vs=[.ref a,x]/\LT K H (.ref a) xs/\(∀z∈xs,z.length<=4) ∧
 ((∃(b:Addr) (ms:Ms) (kc:Nat),x=.ref b/\kc<4/\H b=some (.dK (cK ms))/\ms.length<=200/\C5 xs (kc:Int) ms=true/\(Bi xs ms=[]->∀H',Ah H H'->Q .non H') ∧
     (Bi xs ms≠[]->∀(d c:Addr) (H':Hp),Ah H H'->H' d=some (.xd [("edge",.ref c)])->H' c=some (.dK (cK (Bi xs ms)))->E (.ref CR) (some d) H')) ∨
   (DG H xs x/\∀H',Ah H H'->E (.ref CN) none H'))
end
end Hb
namespace L2
open PySem PySem.Spec PyProof.Rows PySem.SeqAt
def FL{d:Addr}{o:Obj}{kvs:List (V × V)}{g:TG}{tb:TS}{D:Ends}{σ:St}{H:Hp}(Pv:Nat->St->Hp->Prop)(h0:Pv 0 σ H)(hl:∀i σ H,i<=kvs.length->Pv i σ H->H d=some (XO d o))
 (hs:∀i k v σ H p,kvs[i]?=some (k,v)->Pv i σ H->H p=none->g (.ref p) σ (upd H p (.tup [k,v])) fun σ2 H2=>tb { D with nx:=Pv (i+1),ct:=Pv (i+1),bk:=D.nx } σ2 H2) (hd:∀σ H,Pv kvs.length σ H->D.nx σ H) :
 ∃W:Nat->Nat->St->Hp->Prop,(∃m,W 0 m σ H)/\∀i m σ H,W i m σ H →
   ((ItmX d o kvs).stop i H/\D.nx σ H)\/((ItmX d o kvs).go i H/\∃N:St->Hp->Prop,(∀σ' H',N σ' H'->∃m',m'<m/\W (i+1) m' σ' H')/\∀x H',(ItmX d o kvs).yld i H x H'->g x σ H' fun σ2 H2=>tb { D with nx:=N,ct:=N,bk:=D.nx } σ2 H2):=by
 refine⟨fun i m σ H=>m=kvs.length-i/\i<=kvs.length/\Pv i σ H,⟨kvs.length,by simp,qb6 _,h0⟩,?_⟩;rintro i m σ H ⟨rfl,hi,pp⟩;have q:=hl i σ H hi pp;by_cases hlt:i<kvs.length
 . refine .inr ⟨⟨q,hlt⟩,Pv (i+1),fun σ' H' p'=>⟨kvs.length-(i+1),by omega,rfl,hlt,p'⟩,fun x H' y=>?_⟩;obtain⟨p,k,v,hp,rfl,rfl,y⟩:=y;exact hs i k v σ _ p y pp hp
 . have e:i=kvs.length:=by omega
   subst e;exact .inl ⟨⟨q,qa8 _⟩,hd σ H pp⟩
noncomputable def isB:Bool->Value->Bool
 | b,.bool c=>b==c
 | _,_=>false
def Ff{b:Bool}{v:Value}(h:isB b v=true):v=.bool b:=by
 cases v<;>simp_all [isB]
def JW{prog:Program}{w:World}{A:Around}{E:Value->Shared->Prop}{s:Shared}{b:Bool}{Q:Int->Shared->Prop}(h:Q (if b then 1 else 0) { s with toks:=s.toks+1 }):wpAny (model prog w) A (pyHash (.bool b)) Q E s:=by
 have hT:s.TypeIs (.bool b) "bool":=rfl
 have hh:wpAny (model prog w) A (pyHash (.bool b)) (fun i s'=>i=(if b then 1 else 0)/\s'={ s with toks:=s.toks+1 }) E s:=by
  unfold pyHash;have hv:[Value.bool b].any Value.onHeap=false:=rfl;refine qa1 ?_;rw[cRoomFor,if_neg (by rw[hv];exact qc2)];refine qa6 ?_;refine qa1 (wpAny_specialOf hT qn8.lookup ?_);show wpAny _ _ (if (some (Value.builtin "int.__hash__")==some Value.none)=true then _ else _) _ E s;rw[if_neg (by rw[beq_builtin_none];exact qc2)];refine qa1 (wpAny_specialOf hT qn8.lookup ?_);show wpAny _ _ (callSpecialIfBoundUnlessNone? (.bool b) "__hash__" _>>=_) _ E s;cases b
  . refine qa1 (wpAny_callSpecialIfBoundUnlessNone?_slot hT qn8 (qf5 qn8 hT entry_int_hash (show wpAny _ _ (do ret (←mkInt 0)) _ _ s from wpAny_ret_mkInt ?_) (args_int_hash _)));show wpAny _ _ (if (decide (-(2:Int) ^ 63<=0)&&decide ((0:Int)<2 ^ 63))=true then _ else _) _ E _;rw[if_pos (by decide)];exact qa6 ⟨rfl,rfl⟩
  . refine qa1 (wpAny_callSpecialIfBoundUnlessNone?_slot hT qn8 (qf5 qn8 hT entry_int_hash (show wpAny _ _ (do ret (←mkInt 1)) _ _ s from wpAny_ret_mkInt ?_) (args_int_hash _)));show wpAny _ _ (if (decide (-(2:Int) ^ 63<=1)&&decide ((1:Int)<2 ^ 63))=true then _ else _) _ E _;rw[if_pos (by decide)];exact qa6 ⟨rfl,rfl⟩
 exact qe2 hh (fun i s' e=>by rw[e.1,e.2];exact h) fun _ _ e=>e
def Wg(prog:Program)(w:World):KeyKind prog w Bool where
 is:=isB
 hash:=fun b=>if b then 1 else 0
 inj:=fun v a b ha hb=>by
  have e1:=Ff ha;have e2:=Ff hb;rw[e1]at e2;injection e2
 byValue:=fun k v h=>by rw[Ff h];rfl
 pyHash:=fun hv h=>by rw[Ff hv];exact JW h
 eqBool:=fun {A E s a b u v Q} hu hv h=>by
  rw[Ff hu,Ff hv];refine EqAt.bool_bool a b _ _ _ _ ?_;rw[show(a==b)=decide (a=b) by cases a<;>cases b<;>rfl];exact h
 «strs»:=fun k x t v h=>by have:=Ff h;cases this
section
variable{prog:Program}{w:World}{κ:Type}[DecidableEq κ]{knd:KeyKind prog w κ}
theorem W6{A:Around}{E:Value->Shared->Prop}{s:Shared}{id:String}{a b:Addr}{k:κ}{u v:Value}{Q:Bool->Shared->Prop}(sa:(a==sysModules)=false)(sb:(b==sysModules)=false)(ha:s.heap.DictOf knd a [(k,u)])(hb:s.heap.DictOf knd b [(k,v)])
 (he:∀A:Around,EqAt A s u v true) (h:Q true s):wpAny (model prog w) A (Builtin.Dict.samePairs id a b) Q E s:=by
 obtain⟨oa,es,ep,hoa,_,hda,hka,YF,_⟩:=ha;obtain⟨ob,fs,oF,hob,_,hdb,hkb,vL,_⟩:=hb;have la:es.size=1:=by have:=YF.length;simpa using this
 have lb:fs.size=1:=by have:=vL.length;simpa using this
 obtain⟨e,rfl⟩:∃e,es=#[e]:=by
  obtain⟨e,he⟩:=qm5.mp (show es.toList.length=1 by simpa using la);exact⟨e,Array.toList_inj.mp he⟩
 obtain⟨f,rfl⟩:∃f,fs=#[f]:=by
  obtain⟨f,hf⟩:=qm5.mp (show fs.toList.length=1 by simpa using lb);exact⟨f,Array.toList_inj.mp hf⟩
 obtain⟨e1,e2,f1,f2⟩:knd.is k e.key=true/\e.val=u/\knd.is k f.key=true/\f.val=v:=by
  cases YF with
  | cons x1 x2 _=>cases vL with
    | cons y1 y2 _=>exact⟨x1,x2,y1,y2⟩
 have eh:e.hash=knd.hash k:=by
  obtain⟨k',z1,z2⟩:=hka e (by simp);rw[z2,knd.inj _ _ _ z1 e1]
 unfold Builtin.Dict.samePairs
 have sh:∀{c:Addr}{Q:Unit->Shared->Prop},(c==sysModules)=false->Q () s->wpAny (model prog w) A (Builtin.Dict.showsAll c) Q E s:=fun {c Q} hc hq=>by
  unfold Builtin.Dict.showsAll;rw[if_neg (by rw[hc];exact qc2)];exact qa6 hq
 refine qa1 (sh sa (qa1 (sh sb ?_)));refine qa1 (qf6 hoa hda (qa1 (qf6 hob hdb ?_)));rw[if_neg (by simp)];refine qa1 (qk8 hoa hda ?_);rw[qq6];refine qa1 (qe2 (wpAny_forIn_list _ (fun rest r s'=>s'=s/\r=(none,())/\(rest=[0]\/rest=[])) (fun r s'=>s'=s/\r=(none,())) ?_ ?_ _ _ ⟨rfl,rfl,.inl ?_⟩) (fun r s' hr=>?_) fun _ _ e=>e)
 . rintro i rest r s' ⟨rfl,rfl,hr⟩;rcases hr with hr | hr;rotate_left
   . cases hr
   cases hr;refine qa1 (qf6 hoa hda ?_);rw[show(#[e]:Array DictEntry)[0]?=some e from rfl];dsimp only;refine qa1 (qe2 (Q:=fun same s''=>s''=s'/\same=true) (qf3 ?_) (fun same s'' hs=>?_) fun _ _ e=>e)
   . rw[eh];refine qa1 (wpAny_dictFind_of (knd:=knd) (k:=k) e1 hob hdb hkb ?_);have ef:(#[f].findIdx? fun e=>knd.is k e.key)=some 0:=by simp[f1]
     rw[ef];dsimp only;refine qa1 (qf6 hob hdb ?_);rw[show(#[f]:Array DictEntry)[0]?=some f from rfl];dsimp only;refine qf3 ?_;rw[e2,f2];exact he A _ _ _ _ ⟨rfl,rfl⟩
   . obtain⟨rfl,rfl⟩:=hs;rw[if_neg (by decide)];refine qa1 (qk8 hoa hda ?_);rw[if_neg (by simp)];exact qa6 ⟨rfl,rfl,.inr rfl⟩
 . rintro r s' ⟨rfl,rfl,_⟩;exact⟨rfl,rfl⟩
 . simp[Std.Legacy.Range.size]
 . obtain⟨rfl,rfl⟩:=hr;exact qa6 h
end
def ne_one{prog:Program}{w:World}{κ:Type}[DecidableEq κ]{knd:KeyKind prog w κ}{A:Around}{E:Value->Shared->Prop}{s:Shared}{a b:Addr}{k:κ}{u v:Value}{Q:Value->Shared->Prop}(sa:(a==sysModules)=false)(sb:(b==sysModules)=false)(ha:s.heap.DictOf knd a [(k,u)])(hb:s.heap.DictOf knd b [(k,v)])
 (he:∀A:Around,EqAt A s u v true) (hu:A.units<cLine) (h:Q (.bool false) s):wpAny (model prog w) A (richCompare .NotEq (.ref a) (.ref b)) Q E s:=by
 refine wpAny_richCompare_same_room ha.typeIs hb.typeIs qq9 (qf5 qq9 ha.typeIs PySem.F.entry_dict_ne ?_ (PySem.F.args_dict_ne_2 _ _)) hu
 show wpAny (model prog w) A.in1 (do
  let (self,other) ←Builtin.Dict.dictSlotArgs "__ne__" ⟨[.ref a,.ref b],[]⟩
  if !(←isInstance other (.type "dict")) then rule s!"dict.{"__ne__"}.not-a-dict";return ←ret .notImplemented
  ret (.bool ((←Builtin.Dict.samePairs s!"dict.{"__ne__"}" (←Builtin.Dict.addrOf self) (←Builtin.Dict.addrOf other))==false))) _ _ s
 unfold Builtin.Dict.dictSlotArgs;refine qa1 (qa1 (qk6 ha.typeIs ?_));refine qa1 (qa6 ?_);refine qa6 ?_;refine qa1 (qn7 (T:="dict") (b:=true) hb.typeIs isSubtype_dict_dict ?_);rw[if_neg (by decide)];exact qa1 (qa6 (qa1 (qa6 (qa1 (W6 (knd:=knd) sa sb ha hb he (qa6 ⟨_,rfl,(fun x=>nomatch x),h⟩))))))
theorem O4{s:Shared}{a:Addr}{o:Obj}(ho:s.heap.get? a=some o)(hO:OddObj o [(.bl true,.int 1)]):∃t,∀prog w,s.heap.DictOf (Wg prog w) a [(true,.int 1 t)]:=by
 obtain⟨ex,es,ep,hd,hE⟩:=hO;cases hes:es.toList with
 | nil=>rw[hes]at hE;cases hE
 | cons e r =>
   rw[hes]at hE;cases hE with
   | cons x y =>
     cases y;obtain⟨h1,⟨t,h2⟩,h3⟩:=x;have h1:e.key=.bool true:=h1;refine⟨t,fun prog w=>⟨o,es,ep,ho,ex,hd,fun e' he'=>?_,by rw[hes];exact .cons (by rw[h1];rfl) h2 .nil,by simp⟩⟩
     have:e'=e:=by
      have:=Array.mem_def.mp he';rw[hes]at this;simpa using this
     subst this;exact⟨true,by rw[h1];rfl,h3⟩
theorem FP{h:Heap}{a:Addr}{t:Tok}{prog:Program}{w:World}(hd:h.DictOf (Wg prog w) a [(true,.int 1 t)]):∃o,h.get? a=some o/\OddObj o [(.bl true,.int 1)]:=by
 obtain⟨o,es,ep,ho,ex,hd,hk,hp,_⟩:=hd;refine⟨o,ho,ex,es,ep,hd,?_⟩;cases hes:es.toList with
 | nil=>rw[hes]at hp;cases hp
 | cons e r =>
   rw[hes]at hp;cases hp with
   | cons h1 h2 h3 =>
     cases h3;have e1:=Ff h1;obtain⟨k',z1,z2⟩:=hk e (Array.mem_def.mpr (by rw[hes];exact qb2));rw[e1]at z1;have:k'=true:=by cases k'<;>first | rfl | exact nomatch (show false=true from z1)
     subst this;exact .cons ⟨e1,⟨t,h2⟩,z2⟩ .nil
section
variable{X:Cx}
def FZ:CallR X (.type "dict") (fun xs H Q=>∃a,xs=[.ref a]/\((∃kvs,Rd H a (.dK kvs)/\∀p,H p=none->Q (.ref p) (upd H p (.dK kvs)))\/(OddAt H a [(.bl true,.int 1)]/\∀p o,H p=none->(p==sysModules)=false->OddObj o [(.bl true,.int 1)]->Q (.ref p) (upd H p (XO p o))))):=by
 intro Ac s σ H xs us Q I r h;obtain⟨a,rfl,h⟩:=h;obtain⟨u,rfl,rx⟩:=L5 r;cases rx;rcases h with⟨kvs,e,q⟩|⟨⟨hs,o,e,hO⟩,q⟩
 . exact CK I e fun p s' hp I'=>⟨.ref p,_,I',rfl,q p hp⟩
 . have ho:=Lg I e;obtain⟨t,dd⟩:=O4 ho hO;refine kt_call_dict (knd:=Wg X.prog X.w) hs (dd _ _) (qd7 rfl) fun h' CF hs'=>?_;obtain⟨o',ho',hO'⟩:=FP CF;have hsz:(s.heap.objs.size==sysModules)=false:=qj2.mpr (Ne.symm (qb8 I.big));refine⟨.ref s.heap.objs.size,upd H s.heap.objs.size (XO s.heap.objs.size o'),I.laid (a:=s.heap.objs.size) (o:=XO s.heap.objs.size o') (t':=s.toks) (fun b q hq=>?_) (qa8 _) (RV ho'),rfl,q _ _ (I.hok.fresh (qa8 _)) hsz hO'⟩;exact(hs'.2 b (qb8 (qa9 hq))).trans (qa4 _ hq)
def PY(v:V):Prop:=(∃i,v=.int i)\/∃b,v=.bl b
def qC:R2:=fun x y H Q=>∃a b,x=.ref a/\y=.ref b/\((∃ms ns,Rd H a (.dK (cK ms))/\Rd H b (.dK (cK ns))/\Q (.bl (!sameC ms ns)) H)\/(∃k v,PY v/\Rd H a (.dK [(k,v)])/\Rd H b (.dK [(k,v)])/\Q (.bl false) H)\/(OddAt H a [(.bl true,.int 1)]/\OddAt H b [(.bl true,.int 1)]/\Q (.bl false) H))
theorem Up{P:Program}{w:World}{H:Hp}{h:Heap}(hok:Md P w H h){a:Addr}{k:Key}{v:V}(e:Rd H a (.dK [(k,v)])):(a==sysModules)=false/\∃u,RelV v u/\h.DictOf (mixKind P w) a [(k,u)]:=by
 obtain⟨_,hs,vs,rel,dd⟩:=Nl hok e;refine⟨hs,?_⟩;cases rel with
 | cons x y =>
   cases y
   rename_i q
   obtain⟨x1,x2⟩:=x;obtain⟨q1,q2⟩:=q;cases x1;exact⟨q2,x2,dd⟩
def LQ{v:V}{u u':Value}{s:Shared}(h:PY v)(r:RelV v u)(r':RelV v u'):∀A:Around,EqAt A s u u' true:=fun A=>by
 rcases h with⟨i,rfl⟩|⟨b,rfl⟩
 . obtain⟨t,rfl⟩:=r;obtain⟨t',rfl⟩:=r';have:=EqAt.int_int (A:=A) (s:=s) i t i t';simpa using this
 . cases r;cases r';have:=EqAt.bool_bool (A:=A) (s:=s) b b;simpa using this
def uK{n:Nat}(hu:X.A.units+n<cLine):OpR X (compareOp .NotEq) qC:=by
 intro Ac s σ H x y v u Q I rx ry h;obtain⟨a,b,rfl,rfl,h⟩:=h;cases rx;cases ry;rcases h with⟨ms,ns,ha,hb,q⟩|⟨k,v,hv,ha,hb,q⟩|⟨⟨sa,oa,ea,hOa⟩,⟨sb,ob,eb,yJ⟩,q⟩
 . exact EE hu Ac s σ H (.ref a) (.ref b) _ _ Q I rfl rfl ⟨a,b,ms,ns,rfl,rfl,ha,hb,q⟩
 . obtain⟨sa,u1,r1,d1⟩:=Up I.hok ha;obtain⟨sb,u2,r2,d2⟩:=Up I.hok hb;exact ne_one sa sb d1 d2 (LQ hv r1 r2) (by omega) ⟨.bl false,H,I,rfl,q⟩
 . obtain⟨t1,d1⟩:=O4 (Lg I ea) hOa;obtain⟨t2,d2⟩:=O4 (Lg I eb) yJ;refine ne_one sa sb (d1 _ _) (d2 _ _) (LQ (.inl ⟨1,rfl⟩) ⟨t1,rfl⟩ ⟨t2,rfl⟩) (by omega) ⟨.bl false,H,I,rfl,q⟩
def QB(a b:R2):R2:=fun x y H Q=>a x y H Q\/b x y H Q
def UJ{f:Value->Value->Sem Value}{a b:R2}(h1:OpR X f a)(h2:OpR X f b):OpR X f (QB a b):=by
 intro Ac s σ H x y v u Q I rx ry h;rcases h with h | h
 . exact h1 Ac s σ H x y v u Q I rx ry h
 . exact h2 Ac s σ H x y v u Q I rx ry h
def CW:CallR X (.builtin "isinstance") (fun xs H Q=>∃a vs,xs=[.ref a,.ty "tuple"]/\H a=some (.tup vs)/\Q (.bl true) H):=by
 intro Ac s σ H xs us Q I r h;obtain⟨a,vs,rfl,ha,q⟩:=h;obtain⟨u,v,rfl,rx,rt⟩:=Op r;cases rt;cases rx;obtain⟨_,its,_,ob,ho,hc,_⟩:=(show ObjOk X.prog X.w H s.heap a (.tup vs) from I.hok a _ ha)
 exact PySem.IsiPair.tuple_tuple ho hc ⟨.bl true,H,I,rfl,q⟩
end
end L2
namespace L2
open PySem PySem.Spec PyProof.Rows
def kQ{X:Cx}{K:W.Frag}(hc:X.calm=true)(hK:X.K=K:=by rfl):CallR X (.builtin "max") (fun xs H Q=>∃(p:Addr) (ks:List Int),xs=[.ref p]/\SqL K H p (ks.map V.int)/\ks≠[]/\∀m,m∈ks->(∀x∈ks,x<=m)->Q (.int m) H):=by
 subst hK;intro Ac s σ H xs us Q I r h;obtain⟨p,ks,rfl,hp,hne,q⟩:=h;obtain⟨u,rfl,ru⟩:=L5 r;cases ru;have hh:X.A.handled=none:=I.ok.hd hc;obtain⟨its,r1,pl,hz⟩:=I.list hp;have hls:=pl.isList;obtain⟨ol,hol,_⟩:=id hls;have pL:p<s.heap.objs.size:=qa9 hol
 have hl:ks.length=its.toArray.size:=by
  have:=r1.length;simpa using this
 have hname:(toString "max"++toString ".loop":String)="max.loop":=by decide
 refine PyProof.Rows.kmk_tree PySem.F.kind_max PySem.F.plain_max PySem.F.entry_max (KW _) ?_;show wpAny _ X.A.in1 (Builtin.Builtins.bindParams "max" ["key","default"] 0 ⟨[],[]⟩>>=_) _ _ s;refine qa1 (wpAny_of_eq (show Builtin.Builtins.bindParams "max" ["key","default"] 0 ⟨[],[]⟩=pure [none,none] from rfl) (qa1 (qa6 (qa1 (ql3 hls (qa1 (wpAny_newList ?_ (qb6 _))))))));rw[hname];have hS:(s.heap.push { cls:=.type "list_iterator",data:=.fields #[.ref p,.int 0 0] }).objs.size=s.heap.objs.size+1:=qj0 ..;have hSz:(s.heap.objs.size+1:Nat)≠s.heap.objs.size:=ql1 _;have hSl:(s.heap.objs.size+1:Nat)≠p:=qi5 (qo5 pL);refine qa6 ⟨plainId_quiet qi3 _,?_⟩;have W:=Walks.list (prog:=X.prog) (w:=X.w) (A:=X.A.in1) hh s.heap.objs.size p (qb8 pL) its.toArray;refine JL (S:=(s.heap.push { cls:=.type "list_iterator",data:=.fields #[.ref p,.int 0 0] }).objs.size) W ?_ (by rw[hS];exact hSz) ks hl (by rw[←hl];exact qr3.mpr hne) (fun i v hv=>?_) _ 0 _ _ #[] rfl (qb6 _) ?_ (qb3 _ rfl) (.inl ⟨rfl,rfl⟩) fun m t h' tk a1 a2 kk=>?_
 . rw[hS];simp;exact hSl
 . have hv:its[i]?=some v:=by simpa using hv
   have hjl:i<ks.length:=by
    have h1:=(qa2.mp hv).1;rw[hl];simpa using h1
   obtain⟨w',hw,rw'⟩:=r1.get (show(ks.map V.int)[i]?=some (.int ks[i]) by rw[qa7,qa0 hjl];rfl);rw[hv]at hw;cases hw;obtain⟨t,rfl⟩:=rw';exact⟨ks[i],t,qa0 hjl,rfl⟩
 . exact⟨⟨_,qa4 _ (qb3 _ rfl),rfl,rfl⟩,(hls.push _).push _⟩
 . refine⟨.int m,H,I.kept fun b o e=>?_,⟨t,rfl⟩,q m a1 a2⟩;have hb:=qa9 e;exact kk b o (qb8 hb) (by rw[hS];exact qb8 (qo5 hb)) (qa4 _ (qa4 _ e))
def kW(a:Value):argsOk "min" ⟨[a],[]⟩:=by unfold argsOk;kernel_rfl
section
variable{prog:Program}{w:World}{A:Around}{R:Result->Shared->Prop}
theorem JK{I S:Addr}{fp:List Addr}{n:Nat}{P:Nat->Value->Prop}{St:Nat->Heap->Prop}(W:Walks prog w A.in1 I fp [I] n P St)(hSf:S ∉ fp)(hSI:S≠I)(ks:List Int)(hn:ks.length=n)(hn0:0<n)(hP:∀i v,P i v->∃x t,ks[i]?=some x/\v=.int x t) :
 ∀(k i:Nat) (s:Shared) (c:Nat) (best:Array Value),n-i=k->i<=n->St i s.heap->s.heap.get? S=some { cls:=.type "list",dict:=none,data:=.seq best c,slots:=#[] } →
 ((i=0/\best=#[])\/∃m t,best=#[.int m t,.int m t]/\0<i/\m∈ks.take i/\∀x∈ks.take i,m<=x) →
 (∀m t h' tk,m∈ks->(∀x∈ks,m<=x)->(∀b o,b≠I->b≠S->s.heap.get? b=some o->h'.get? b=some o)->R (.ok (.ret (.int m t))) { s with heap:=h',toks:=tk }) →
 codeAny (model prog w) A (.builtin "min.loop" ⟨[.ref I,.none,.ref S],[]⟩) R s:=by
 have hname:(toString "min"++toString ".loop":String)="min.loop":=by decide
 intro k
 induction k with
 | zero =>
   intro i s c best hk hi hst hS hb hR;have hin:i=n:=by omega
   subst hin;refine codeAny_builtin PySem.F.entry_min_loop ?_;rw[qj6 qi2 _];show wpAny _ A.in1 (seqItems? (.ref S)>>=_) _ _ s;refine qa1 (ql9 hS rfl ?_);show wpAny _ A.in1 (tryCatch (pyNext (.ref I)) _>>=_) _ _ s;skip;refine qa1 (ql8 (W.done s _ _ hst fun h' tk hk'=>?_));have hS':=hk' S _ (by simpa using hSI) hS;rcases hb with⟨h0,rfl⟩|⟨m,t,rfl,_,hm1,hm2⟩
   . omega
   . show wpAny _ A.in1 (updateSeq S (fun _=>#[])>>=_) _ _ _;refine qa1 ?_;refine qm8 hS' rfl (qa1 (qk7 (qa6 ?_)));rw[←hn,qb9]at hm1 hm2;exact hR m t _ tk hm1 hm2 fun b o Ti Ve e=>(qe7 _ _ (Ne.symm Ve)).trans (hk' b o (by simpa using Ti) e)
 | succ k ih =>
   intro i s c best hk hi hst hS hb hR;have hlt:i<n:=by omega
   refine codeAny_builtin PySem.F.entry_min_loop ?_;rw[qj6 qi2 _];show wpAny _ A.in1 (seqItems? (.ref S)>>=_) _ _ s;refine qa1 (ql9 hS rfl ?_);show wpAny _ A.in1 (tryCatch (pyNext (.ref I)) _>>=_) _ _ s;skip;refine qa1 (ql8 (W.item i s _ _ hlt hst fun v h' tk hPv NR hk'=>?_));have hS':=hk' S _ (by simpa using hSI) hS;obtain⟨n1,t1,hx,rfl⟩:=hP i v hPv;have htk:ks.take (i+1)=ks.take i++[n1]:=by rw[qf1,hx];rfl
   have wU:∀f:Array Value->Array Value,St (i+1) (h'.update S (Obj.mapSeq f)):=fun f=>W.frame _ _ _ NR fun b hb o e=>(qe7 _ _ (fun z:S=b=>hSf (by rw[z];exact hb))).trans e;have old:∀(f:Array Value->Array Value) (b:Addr) (o:Obj),b≠I->b≠S->s.heap.get? b=some o->(h'.update S (Obj.mapSeq f)).get? b=some o:=fun f b o Ti Ve e=>(qe7 _ _ (Ne.symm Ve)).trans (hk' b o (by simpa using Ti) e);rcases hb with⟨h0,rfl⟩|⟨n2,t2,rfl,hi0,hm1,hm2⟩
   . show wpAny _ A.in1 (updateSeq S (fun _=>#[.int n1 t1,.int n1 t1])>>=_) _ _ _;refine qa1 ?_;refine qm8 hS' rfl ?_;rw[hname];subst h0;refine qa6 ⟨plainId_quiet qi2 _,ih 1 _ _ #[.int n1 t1,.int n1 t1] (by omega) hlt (wU _) (qf9 _ hS' rfl) (.inr ⟨n1,t1,rfl,by omega,by rw[htk];simp,fun x hx'=>?_⟩) fun m t h'' tk' a1 a2 kk=>?_⟩
     . rw[htk]at hx';simp at hx';omega
     . exact hR m t h'' tk' a1 a2 fun b o Ti Ve e=>kk b o Ti Ve (old _ b o Ti Ve e)
   . show wpAny _ A.in1 (tryCatch (holding [.int n1 t1,.int n1 t1] (richCompare .Lt (.int n1 t1) (.int n2 t2)>>=_)) _>>=_) _ _ _;refine qa1 (ql8 (qf3 (qa1 (CmpOf.ints_lt (prog:=prog) (w:=w) (A:=A.in1) (P:=fun i v=>∃t,v=.int (if i=0 then n1 else n2) t) (fun i=>if i=0 then n1 else n2) (fun i v h=>h) 0 1 _ _ _ _ _ ⟨t1,rfl⟩ ⟨t2,rfl⟩ ?_))));refine qa1 (qf3 (qg8 ?_));refine qa1 (qk7 (qa6 ?_));split
     . next hgt =>
       have vK:n1<n2:=by simpa using hgt
       refine qa1 ?_;refine qm8 hS' rfl (qa1 (qk7 ?_));rw[hname];refine qa6 ⟨plainId_quiet qi2 _,ih (i+1) _ _ #[.int n1 t1,.int n1 t1] (by omega) hlt (wU _) (qf9 _ hS' rfl) (.inr ⟨n1,t1,rfl,by omega,by rw[htk];simp,fun x hx'=>?_⟩) fun m t h'' tk' a1 a2 kk=>?_⟩
       . rw[htk]at hx';rcases qd6.mp hx' with h1 | h1
         . have:=hm2 x h1;omega
         . simp at h1;omega
       . exact hR m t h'' tk' a1 a2 fun b o Ti Ve e=>kk b o Ti Ve (old _ b o Ti Ve e)
     . next hgt =>
       have vK:n2<=n1:=by simpa using hgt
       refine qa1 (qk7 ?_);rw[hname];refine qa6 ⟨plainId_quiet qi2 _,ih (i+1) _ _ #[.int n2 t2,.int n2 t2] (by omega) hlt NR hS' (.inr ⟨n2,t2,rfl,by omega,by rw[htk];simp[hm1],fun x hx'=>?_⟩) fun m t h'' tk' a1 a2 kk=>?_⟩
       . rw[htk]at hx';rcases qd6.mp hx' with h1 | h1
         . exact hm2 x h1
         . simp at h1;omega
       . exact hR m t h'' tk' a1 a2 fun b o Ti Ve e=>kk b o Ti Ve (hk' b o (by simpa using Ti) e)
end
def call_minL{X:Cx}{K:W.Frag}(hc:X.calm=true)(hK:X.K=K:=by rfl):CallR X (.builtin "min") (fun xs H Q=>∃(p:Addr) (ks:List Int),xs=[.ref p]/\SqL K H p (ks.map V.int)/\ks≠[]/\∀m,m∈ks->(∀x∈ks,m<=x)->Q (.int m) H):=by
 subst hK;intro Ac s σ H xs us Q I r h;obtain⟨p,ks,rfl,hp,hne,q⟩:=h;obtain⟨u,rfl,ru⟩:=L5 r;cases ru;have hh:X.A.handled=none:=I.ok.hd hc;obtain⟨its,r1,pl,hz⟩:=I.list hp;have hls:=pl.isList;obtain⟨ol,hol,_⟩:=id hls;have pL:p<s.heap.objs.size:=qa9 hol
 have hl:ks.length=its.toArray.size:=by
  have:=r1.length;simpa using this
 have hname:(toString "min"++toString ".loop":String)="min.loop":=by decide
 refine PyProof.Rows.kmk_tree PySem.F.kind_min PySem.F.plain_min PySem.F.entry_min (kW _) ?_;show wpAny _ X.A.in1 (Builtin.Builtins.bindParams "min" ["key","default"] 0 ⟨[],[]⟩>>=_) _ _ s;refine qa1 (wpAny_of_eq (show Builtin.Builtins.bindParams "min" ["key","default"] 0 ⟨[],[]⟩=pure [none,none] from rfl) (qa1 (qa6 (qa1 (ql3 hls (qa1 (wpAny_newList ?_ (qb6 _))))))));rw[hname];have hS:(s.heap.push { cls:=.type "list_iterator",data:=.fields #[.ref p,.int 0 0] }).objs.size=s.heap.objs.size+1:=qj0 ..;have hSz:(s.heap.objs.size+1:Nat)≠s.heap.objs.size:=ql1 _;have hSl:(s.heap.objs.size+1:Nat)≠p:=qi5 (qo5 pL);refine qa6 ⟨plainId_quiet qi2 _,?_⟩;have W:=Walks.list (prog:=X.prog) (w:=X.w) (A:=X.A.in1) hh s.heap.objs.size p (qb8 pL) its.toArray;refine JK (S:=(s.heap.push { cls:=.type "list_iterator",data:=.fields #[.ref p,.int 0 0] }).objs.size) W ?_ (by rw[hS];exact hSz) ks hl (by rw[←hl];exact qr3.mpr hne) (fun i v hv=>?_) _ 0 _ _ #[] rfl (qb6 _) ?_ (qb3 _ rfl) (.inl ⟨rfl,rfl⟩) fun m t h' tk a1 a2 kk=>?_
 . rw[hS];simp;exact hSl
 . have hv:its[i]?=some v:=by simpa using hv
   have hjl:i<ks.length:=by
    have h1:=(qa2.mp hv).1;rw[hl];simpa using h1
   obtain⟨w',hw,rw'⟩:=r1.get (show(ks.map V.int)[i]?=some (.int ks[i]) by rw[qa7,qa0 hjl];rfl);rw[hv]at hw;cases hw;obtain⟨t,rfl⟩:=rw';exact⟨ks[i],t,qa0 hjl,rfl⟩
 . exact⟨⟨_,qa4 _ (qb3 _ rfl),rfl,rfl⟩,(hls.push _).push _⟩
 . refine⟨.int m,H,I.kept fun b o e=>?_,⟨t,rfl⟩,q m a1 a2⟩;have hb:=qa9 e;exact kk b o (qb8 hb) (by rw[hS];exact qb8 (qo5 hb)) (qa4 _ (qa4 _ e))
end L2
namespace Hb
open PySem L2
abbrev cF(xs:LLInt):(Int->Bool) × LLInt:=D6 xs xs.length xs.length (fun _=>true) []
abbrev kF(xs:LLInt):List Int:=At xs.length (cF xs).1
def pI(xs:LLInt)(p:List Int):Prop:=∃f q:Int,p=[f,q]/\0<=q/\q<(xs.length:Int)/\Fr (Bt xs q) f=1
theorem V1{xs:LLInt}:∀(m:Nat) (fl:Int->Bool) (acc:LLInt),∀p∈(D6 xs xs.length m fl acc).2,p∈acc\/pI xs p
 | 0,fl,acc,p,hp=>.inl hp
 | m+1,fl,acc,p,hp=>by
   cases hb:Gx xs (At xs.length fl) with
   | nil=>rw[Qi hb]at hp;exact .inl hp
   | cons r rs =>
     rw[Ob hb]at hp;rcases V1 m _ _ p hp with z | z
     . rcases qd6.mp z with z | z
       . exact .inl z
       . rw[qb7.mp z];obtain⟨f,hf,hg,e,hq⟩:=Pk (show r∈Gx xs (At xs.length fl) by rw[hb];exact qb2);subst e;have PL:=hg;unfold Jo at PL;rw[qb4]at PL;obtain⟨q0,e0⟩:=qm5.mp (qc9 PL.1);have e2:(Dv xs (At xs.length fl) f).getD 0 0=q0:=by rw[e0];rfl
         have hq':q0∈At xs.length fl:=by rw[←e2];exact hq
         obtain⟨⟨q1,q2⟩,_⟩:=Mu.mp hq';have l1:=qc9 PL.1;refine .inr ⟨f,q0,by show [f,(Dv xs (At xs.length fl) f).getD 0 0]=_;rw[e2],q1,q2,?_⟩;have a:=Ru (xs:=xs) (f:=f) hq';have b:=Yp (xs:=xs) (f:=f) (ks:=At xs.length fl) (q:=q0) (by rw[e0];exact qb7.mpr rfl);omega
     . exact .inr z
def Se{xs:LLInt}{p:List Int}(h:p∈(cF xs).2):pI xs p:=by
 rcases V1 _ _ _ p h with z | z
 . cases z
 . exact z
theorem HA{xs:LLInt}{n:Nat}:∀(m:Nat) (fl:Int->Bool) (acc:LLInt),(D6 xs n m fl acc).2.length<=acc.length+m
 | 0,fl,acc=>qa8 _
 | m+1,fl,acc=>by
   cases hb:Gx xs (At n fl) with
   | nil=>rw[Qi hb];show acc.length<=_;omega
   | cons r rs =>
     rw[Ob hb];have:=HA (xs:=xs) (n:=n) m (without fl r) (acc++[r]);rw[qd1,qh3]at this;omega
def sX(xs:LLInt):(cF xs).2.length<=xs.length:=by
 have:=HA (xs:=xs) (n:=xs.length) xs.length (fun _=>true) [];simpa using this
theorem Uj(xs:LLInt)(p:List Int):∀(ps:LLInt) (l fi:Ms),Cv xs (ps++[p]) l fi=Cv xs [p] (Cv xs ps l fi).1 (Cv xs ps l fi).2
 | [],l,fi=>rfl
 | q::ps,l,fi=>Uj xs p ps _ _
def IL{xs:LLInt}{ps:LLInt}{l fi:Ms}{i:Nat}{f q:Int}(h:ps[i]?=some [f,q]) :
 Cv xs (ps.take (i+1)) l fi=(Cn (Cv xs (ps.take i) l fi).1 (Bw (-(Be (Cv xs (ps.take i) l fi).1 f*Be (Bi xs [(q,1)]) f)) (Bi xs [(q,1)])),Cn (Cv xs (ps.take i) l fi).2 (Bw (Be (Cv xs (ps.take i) l fi).1 f*Be (Bi xs [(q,1)]) f) [(q,1)])):=by
 rw[qf0,h];show Cv xs (ps.take i++[[f,q]]) l fi=_;rw[Uj];rfl
def Kv(xs:LLInt)(k:Nat)(ms:Ms):Prop:=∀p∈ms,0<=p.1/\p.1<(xs.length:Int)/\lev (Bt xs p.1)=k
def nC{ms:Ms}{k n:Int}{p:Int × Int}(h:p∈E4 ms k n):p∈ms\/p.1=k:=by
 unfold E4 at h;split at h
 . exact .inl (qg1.mp h).1
 . rcases Tu h with z | z
   . exact .inl z
   . rw[z];exact .inr rfl
theorem Rn:∀{ns ms:Ms}{p:Int × Int},p∈Cn ms ns->(∃q∈ms,q.1=p.1)\/(∃q∈ns,q.1=p.1)
 | [],ms,p,h=>.inl ⟨p,h,rfl⟩
 | r::ns,ms,p,h=>by
   rcases Rn (ns:=ns) (ms:=E4 ms r.1 r.2) h with⟨q,hq,e⟩|⟨q,hq,e⟩
   . rcases nC hq with z | z
     . exact .inl ⟨q,z,e⟩
     . exact .inr ⟨r,qb2,by rw[←e,z]⟩
   . exact .inr ⟨q,qb0 _ hq,e⟩
def Kv.plus{xs:LLInt}{k:Nat}{ms ns:Ms}(h1:Kv xs k ms)(h2:Kv xs k ns):Kv xs k (Cn ms ns):=fun p hp=>by
 rcases Rn hp with⟨q,hq,e⟩|⟨q,hq,e⟩
 . rw[←e];exact h1 q hq
 . rw[←e];exact h2 q hq
def Kv.times{xs:LLInt}{k:Nat}{ms:Ms}(h:Kv xs k ms)(n:Int):Kv xs k (Bw n ms):=fun p hp=>by
 unfold Bw at hp;split at hp
 . cases hp
 . obtain⟨q,hq,rfl⟩:=qd8.mp hp;exact h q hq
def Is{ms:Ms}(h:nd ms){p:Int × Int}(hp:p∈ms):Be ms p.1=p.2:=by unfold Be;rw[Mx h hp];rfl
theorem Qg{ms:Ms}{k:Int}(h:Be ms k≠0):∃p∈ms,p.1=k:=by
 unfold Be at h;cases e:lookI ms k with
 | none=>rw[e]at h;exact absurd rfl h
 | some v=>exact⟨_,N5 e,rfl⟩
def Ut{xs:LLInt}{e p:Int}(h:oX xs e p≠0):e∈Bt xs p:=by
 by_cases z:e∈Bt xs p
 . exact z
 . exact absurd (Tt z) h
def Iq{xs:LLInt}{q:Int}(h0:0<=q)(h1:q<(xs.length:Int)):xs[q.toNat]?=some (Bt xs q):=by
 have hi:q.toNat<xs.length:=by omega
 rw[qa0 hi];show _=some (xs.getD q.toNat []);rw[qa5,qa0 hi];rfl
def Na{xs:LLInt}(hs:B0 xs){q f:Int}(h0:0<=q)(h1:q<(xs.length:Int))(hf:f∈Bt xs q):0<=f/\f<(xs.length:Int)/\lev (Bt xs f)+1=lev (Bt xs q):=by
 have F:=hs _ _ (Iq h0 h1);obtain⟨r,e1,e2⟩:=F.bel f hf;have f0:=F.low f hf;have lt:=(qa2.mp e1).1;rw[qc4]at lt
 have:xs[f.toNat]?=some r:=by
  rw[qo0]at e1;split at e1
  . exact e1
  . cases e1
 refine⟨f0,by omega,?_⟩;have z:=Iq (xs:=xs) f0 (by omega);rw[this]at z;cases z;exact e2
def QT{xs:LLInt}(hs:B0 xs){q:Int}(h0:0<=q)(h1:q<(xs.length:Int)){k:Nat}(hk:lev (Bt xs q)=k+1)(n:Int):Kv xs k (Bi xs [(q,n)]):=fun p hp=>by
 have e:=Is (Et xs _ _) hp;have nz1:=Ir xs _ _ p hp;rw[←e]at nz1
 have e2:Be (Bi xs [(q,n)]) p.1=n*oX xs p.1 q:=by
  rw[Iy,Cj,Fz];show n*oX xs p.1 q+0=_;omega
 have e3:oX xs p.1 q≠0:=fun z=>nz1 (by show Be (Bi xs [(q,n)]) p.1=0;rw[e2,z];simp);obtain⟨a,b,c⟩:=Na hs h0 h1 (Ut e3);exact⟨a,b,by omega⟩
theorem AX{xs:LLInt}(hs:B0 xs){k:Nat}:∀(ps:LLInt) (l fi:Ms),(∀p∈ps,pI xs p)->Kv xs k l->Kv xs (k+1) fi->Kv xs k (Cv xs ps l fi).1/\Kv xs (k+1) (Cv xs ps l fi).2
 | [],l,fi,_,h1,h2=>⟨h1,h2⟩
 | p::ps,l,fi,hp,h1,h2=>by
   obtain⟨f,q,rfl,q0,q1,hc⟩:=hp p qb2;refine AX hs ps _ _ (fun r hr=>hp r (qb0 _ hr)) ?_ ?_
   all_goals
    show Kv xs _ (Cn _ (Bw _ _));by_cases z:Be l f=0
   . rw[show([f,q]:List Int).getD 0 0=f from rfl,z];simp only[Int.zero_mul,Int.neg_zero];exact h1
   . obtain⟨r,hr,e⟩:=Qg z;obtain⟨_,_,a3⟩:=h1 r hr;rw[e]at a3
     have hm:f∈Bt xs q:=Ut fun z2=>by
      have:=Tz hc;rw[show P9 (Bt xs q) f=0 from z2]at this;cases this
     obtain⟨_,_,b3⟩:=Na hs q0 q1 hm;exact h1.plus ((QT hs q0 q1 (by omega) 1).times _)
   . rw[show([f,q]:List Int).getD 0 0=f from rfl,z];simp only[Int.zero_mul,Int.neg_zero];exact h2
   . obtain⟨r,hr,e⟩:=Qg z;obtain⟨_,_,a3⟩:=h1 r hr;rw[e]at a3
     have hm:f∈Bt xs q:=Ut fun z2=>by
      have:=Tz hc;rw[show P9 (Bt xs q) f=0 from z2]at this;cases this
     obtain⟨_,_,b3⟩:=Na hs q0 q1 hm;refine h2.plus (Kv.times (fun p hp=>?_) _);rw[qb7.mp hp];exact⟨q0,q1,by show lev (Bt xs q)=k+1;omega⟩
theorem P3{xs:LLInt}(h4:∀x∈xs,x.length<=4):∀(ps:LLInt) (l fi:Ms),(Cv xs ps l fi).1.length<=l.length+4*ps.length/\(Cv xs ps l fi).2.length<=fi.length+ps.length
 | [],l,fi=>⟨by simp[Cv],by simp[Cv]⟩
 | p::ps,l,fi=>by
   have tl:∀(n:Int) (ms:Ms),(Bw n ms).length<=ms.length:=fun n ms=>by unfold Bw;split<;>simp
   have hb:=Ie h4 [(p.getD 1 0,1)] 1;obtain⟨a,b⟩:=P3 h4 ps (Cn l (Bw (-(Be l (p.getD 0 0)*Be (Bi xs [(p.getD 1 0,1)]) (p.getD 0 0))) (Bi xs [(p.getD 1 0,1)]))) (Cn fi (Bw (Be l (p.getD 0 0)*Be (Bi xs [(p.getD 1 0,1)]) (p.getD 0 0)) [(p.getD 1 0,1)]));have l1:=Qb (Bw (-(Be l (p.getD 0 0)*Be (Bi xs [(p.getD 1 0,1)]) (p.getD 0 0))) (Bi xs [(p.getD 1 0,1)])) l;have l2:=Qb (Bw (Be l (p.getD 0 0)*Be (Bi xs [(p.getD 1 0,1)]) (p.getD 0 0)) [(p.getD 1 0,1)]) fi;have t1:=tl (-(Be l (p.getD 0 0)*Be (Bi xs [(p.getD 1 0,1)]) (p.getD 0 0))) (Bi xs [(p.getD 1 0,1)]);have t2:=tl (Be l (p.getD 0 0)*Be (Bi xs [(p.getD 1 0,1)]) (p.getD 0 0)) [(p.getD 1 0,1)];have hb':(Bi xs [(p.getD 1 0,1)]).length<=4:=hb;simp only[qh3]at t2;refine⟨qe5 a ?_,qe5 b ?_⟩
   . rw[qd9];omega
   . rw[qd9];omega
theorem Sl{xs:LLInt}:∀(ps:LLInt) (l fi:Ms),∀p∈(Cv xs ps l fi).2,(∃q∈fi,q.1=p.1)\/∃r∈ps,r.getD 1 0=p.1
 | [],l,fi,p,h=>.inl ⟨p,h,rfl⟩
 | r::ps,l,fi,p,h=>by
   rcases Sl ps _ _ p h with⟨q,hq,e⟩|⟨s,hs,e⟩
   . rcases Rn hq with⟨t,ht,e2⟩|⟨t,ht,e2⟩
     . exact .inl ⟨t,ht,by rw[e2,e]⟩
     . refine .inr ⟨r,qb2,?_⟩;unfold Bw at ht;split at ht
       . cases ht
       . rw[List.map_singleton,qb7]at ht;rw[←e,←e2,ht]
   . exact .inr ⟨s,qb0 _ hs,e⟩
def SK(x:List Int):Ca x.length=(lev x:Int):=by
 unfold Ca lev;split<;>omega
def Ts{xs:LLInt}{k p n:Int}:gM xs k p n=true↔(0<=p/\p<(xs.length:Int)/\((lev (Bt xs p):Nat):Int)=k)/\n≠0:=by
 unfold gM;show((decide (0<=p)&&decide (p<(xs.length:Int))&&decide (Ca (xs.getD p.toNat []).length=k))&&decide (¬n=0))=true↔_;rw[SK];simp only[qb4,qk2,and_assoc]
 try exact Iff.rfl
def Iz{xs:LLInt}{k:Nat}{ms:Ms}:C5 xs (k:Int) ms=true↔Kv xs k ms/\nz ms:=by
 unfold C5;rw[qc8];constructor
 . intro h;refine⟨fun p hp=>?_,fun p hp=>(Ts.mp (h p hp)).2⟩;obtain⟨⟨a,b,c⟩,_⟩:=Ts.mp (h p hp);exact⟨a,b,by omega⟩
 . rintro ⟨h1,h2⟩ p hp;obtain⟨a,b,c⟩:=h1 p hp;exact Ts.mpr ⟨⟨a,b,by rw[c]⟩,h2 p hp⟩
def GK{xs:LLInt}(hs:B0 xs){k:Nat}{ms:Ms}(hn:nd ms)(hc:C5 xs (k:Int) ms=true)(hb:Bi xs ms=[]):L4 xs (kF xs) ms (Cv xs (cF xs).2 ms []).1 (Cv xs (cF xs).2 ms []).2:=by
 obtain⟨hl,hz⟩:=Iz.mp hc
 have Oj:∀x∈xs,∀f∈x,0<=f/\f<(xs.length:Int):=fun x hx f hf=>by
  obtain⟨i,hi,e⟩:=qh1 hx;have:=K8 hs (by rw[qa0 hi,e]) hf;omega
 have h0:L4 xs (At xs.length (fun _=>true)) ms ms []:=by
  refine⟨hn,hz,qi7,(fun p hp=>by cases hp),fun q hq=>?_,fun e=>?_,fun e=>by rw[Fz];omega⟩
  . by_cases z:Be ms q=0
    . exact z
    . obtain⟨p,hp,e⟩:=Qg z;obtain⟨a,b,_⟩:=hl p hp;rw[e]at a b;exact absurd (Mu.mpr ⟨⟨a,b⟩,rfl⟩) hq
  . have:=Iy (xs:=xs) (ms:=ms) e;rw[hb,Ko]at this;exact this.symm
 obtain⟨more,e,h⟩:=X7 hs rfl xs.length (fun _=>true) [] ms [] (HC Oj) h0;rw[qm2]at e;rw[show(cF xs).2=more from e];exact h
def zF(ms:Ms)(fs:List Int)(n:Int):Nat->Ms
 | 0=>ms
 | j+1=>putI (zF ms fs n j) (fs.getD j 0) (Be (zF ms fs n j) (fs.getD j 0)+Ta n j)
def zN(xs:LLInt)(ms:Ms):Nat->Ms
 | 0=>[]
 | i+1=>zF (zN xs ms i) (xs.getD (ms.getD i (0,0)).1.toNat []) (ms.getD i (0,0)).2 (xs.getD (ms.getD i (0,0)).1.toNat []).length
def cA(ms:Ms)(k v j:Int):Be (putI ms k v) j=if j=k then v else Be ms j:=by
 unfold Be;rw[Yi];split<;>rfl
theorem NX(ms:Ms)(fs:List Int)(n k:Int):∀j,Be (zF ms fs n j) k=Be ms k+Dz fs k j*n
 | 0=>by simp[zF,Dz]
 | j+1=>by
   have ih:=NX ms fs n k j;show Be (putI (zF ms fs n j) (fs.getD j 0) (Be (zF ms fs n j) (fs.getD j 0)+Ta n j)) k=Be ms k+(if fs.getD j 0=k then Dz fs k j+1-2*((j:Int)%2) else Dz fs k j)*n;rw[cA];by_cases h:fs.getD j 0=k
   . rw[if_pos h.symm,if_pos h,h,ih];unfold Ta;by_cases h2:(j:Int)%2=0
     . rw[if_pos h2,h2];rw[show Dz fs k j+1-2*0=Dz fs k j+1 by omega,Int.add_mul];omega
     . have h3:(j:Int)%2=1:=by omega
       rw[if_neg h2,h3];rw[show Dz fs k j+1-2*1=Dz fs k j+-1 by omega,Int.add_mul];omega
   . rw[if_neg (fun z=>h z.symm),if_neg h];exact ih
theorem sJ{ms:Ms}(h:nd ms)(fs:List Int)(n:Int):∀j,nd (zF ms fs n j)
 | 0=>h
 | j+1=>Uz (sJ h fs n j) _ _
theorem EZ(ms:Ms)(fs:List Int)(n:Int):∀j,(zF ms fs n j).length<=ms.length+j
 | 0=>qa8 _
 | j+1=>by
   have h1:=EZ ms fs n j;have h2:=Qa (zF ms fs n j) (fs.getD j 0) (Be (zF ms fs n j) (fs.getD j 0)+Ta n j);show(putI _ _ _).length<=_;omega
theorem Uy(xs:LLInt)(ms:Ms):∀i,nd (zN xs ms i)
 | 0=>qi7
 | i+1=>sJ (Uy xs ms i) _ _ _
theorem Rp{xs:LLInt}(h4:∀x∈xs,x.length<=4)(ms:Ms):∀i,(zN xs ms i).length<=4*i
 | 0=>qa8 _
 | i+1=>by
   have h1:=Rp h4 ms i;have h2:=EZ (zN xs ms i) (xs.getD (ms.getD i (0,0)).1.toNat []) (ms.getD i (0,0)).2 (xs.getD (ms.getD i (0,0)).1.toNat []).length
   have h3:(xs.getD (ms.getD i (0,0)).1.toNat []).length<=4:=by
    rw[qa5];cases e:xs[(ms.getD i (0,0)).1.toNat]? with
    | none=>show(0:Nat)<=4;omega
    | some x=>exact h4 x (qb5 e)
   show(zF _ _ _ _).length<=_;omega
theorem gH(xs:LLInt)(ms:Ms)(y:Int):∀i,Be (zN xs ms i) y=Be (Jt xs ms i) y
 | 0=>rfl
 | i+1=>by
   show Be (zF (zN xs ms i) _ _ _) y=Be (Jb (Jt xs ms i) _ _ _) y;rw[NX,Ys,gH xs ms y i]
def DF(xs:LLInt)(ms:Ms):Prop:=∀p∈ms,0<=p.1/\p.1<(xs.length:Int)
def Kv.rg{xs:LLInt}{k:Nat}{ms:Ms}(h:Kv xs k ms):DF xs ms:=fun p hp=>⟨(h p hp).1,(h p hp).2.1⟩
def Vm(xs:LLInt)(ms:Ms)(e:Int):Be (E3 (zN xs ms ms.length)) e=Be (Bi xs ms) e:=by
 rw[NY (Uy xs ms _),gH];rfl
def Zv(ms:Ms)(n:Int)(ns:Ms):Nat->Ms
 | 0=>ms
 | i+1=>putI (Zv ms n ns i) (ns.getD i (0,0)).1 (Be (Zv ms n ns i) (ns.getD i (0,0)).1+n*(ns.getD i (0,0)).2)
theorem nA{ms:Ms}(h:nd ms)(n:Int)(ns:Ms):∀i,nd (Zv ms n ns i)
 | 0=>h
 | i+1=>Uz (nA h n ns i) _ _
theorem k8(ms:Ms)(n:Int)(ns:Ms):∀i,(Zv ms n ns i).length<=ms.length+i
 | 0=>qa8 _
 | i+1=>by
   have h1:=k8 ms n ns i;have h2:=Qa (Zv ms n ns i) (ns.getD i (0,0)).1 (Be (Zv ms n ns i) (ns.getD i (0,0)).1+n*(ns.getD i (0,0)).2);show(putI _ _ _).length<=_;omega
theorem nY(ms:Ms)(n:Int){ns:Ms}(h:nd ns)(k:Int):∀i,i<=ns.length->Be (Zv ms n ns i) k=Be ms k+n*Be (ns.take i) k
 | 0,_=>by simp[Zv,Ko]
 | i+1,hi=>by
   have ih:=nY ms n h k i (by omega);have hx:ns[i]?=some ns[i]:=qa0 (by omega);have hg:ns.getD i (0,0)=ns[i]:=by rw[qa5,hx];rfl
   show Be (putI (Zv ms n ns i) (ns.getD i (0,0)).1 _) k=_;rw[cA,hg]
   have ht:Be (ns.take (i+1)) k=if ns[i].1=k then ns[i].2 else Be (ns.take i) k:=by
    rw[qf0,hx];have nw:=Pr h hx;by_cases e:ns[i].1=k
    . rw[if_pos e];have hm:ns[i]∈ns.take i++(some ns[i]).toList:=qd6.mpr (.inr (by simp))
      have hn:nd (ns.take i++(some ns[i]).toList):=by
       have:nd (ns.take (i+1)):=by unfold nd at *;rw[qj4];exact qs1 (List.take_sublist _ _) h
       rw[qf0,hx]at this;exact this
      have:=Is hn hm;rw[e]at this;exact this
    . rw[if_neg e];unfold Be lookI;rw[List.find?_append];cases q:(ns.take i).find? fun p=>decide (p.1=k) with
      | some v=>rfl
      | none=>simp[e]
   rw[ht];by_cases e:ns[i].1=k
   . rw[if_pos e.symm,if_pos e,e,ih];have:Be (ns.take i) k=0:=Kn (by rw[←e];exact Pr h hx);rw[this];simp
   . rw[if_neg (fun z=>e z.symm),if_neg e,ih]
def rY(ms:Ms)(n:Int)(ns:Ms):Ms:=E3 (Zv ms n ns ns.length)
def j4{ms:Ms}(h:nd ms)(n:Int)(ns:Ms):nd (rY ms n ns):=U0 (nA h n ns _)
def MX(ms:Ms)(n:Int)(ns:Ms):nz (rY ms n ns):=GP _
def gW{ms:Ms}(h:nd ms)(n:Int){ns:Ms}(h2:nd ns)(k:Int):Be (rY ms n ns) k=Be ms k+n*Be ns k:=by
 unfold rY;rw[NY (nA h n ns _),nY ms n h2 k _ (qa8 _),qb9]
def GR(ms:Ms)(n:Int)(ns:Ms):(rY ms n ns).length<=ms.length+ns.length:=qe5 (N6 _) (k8 ms n ns _)
def lS{xs:LLInt}{ms ns:Ms}(n:Int)(h1:nd ms)(h2:nd ns)(r1:DF xs ms)(r2:DF xs ns):DF xs (rY ms n ns):=fun p hp=>by
 have e:=Is (j4 h1 n ns) hp;have z:=MX ms n ns p hp;rw[←e,gW h1 n h2]at z;by_cases a:Be ms p.1=0
 . by_cases b:Be ns p.1=0
   . rw[a,b]at z;simp at z
   . obtain⟨q,hq,e2⟩:=Qg b;rw[←e2];exact r2 q hq
 . obtain⟨q,hq,e2⟩:=Qg a;rw[←e2];exact r1 q hq
def XF{xs:LLInt}(hs:B0 xs){ms:Ms}(h:DF xs ms):DF xs (E3 (zN xs ms ms.length)):=fun p hp=>by
 have hn:=U0 (Uy xs ms ms.length);have e:=Is hn hp;have z:=GP (zN xs ms ms.length) p hp;rw[←e,Vm,Iy]at z;by_cases q:∃r∈ms,P9 (xs.getD r.1.toNat []) p.1≠0
 . obtain⟨r,hr,ho⟩:=q;obtain⟨a,b,_⟩:=Na hs (h r hr).1 (h r hr).2 (Ut (show oX xs p.1 r.1≠0 from ho));exact⟨a,b⟩
 . exact absurd (Pq fun r hr=>Decidable.byContradiction fun w=>q ⟨r,hr,w⟩) z
def YW{ks:List Int}(hn:ks.Nodup){ms:Ms}(hm:nd ms)(hk:∀p∈ms,p.1∈ks){p:Int × Int}(hp:p∈GZ ks ms):∃q∈ms,p.1=J8 ks q.1:=by
 have e:=Is (Yh ks ms _) hp;have z:=gQ ks ms _ p hp;rw[←e,←T7 p.1 (Yh ks ms _),LI _ _ _ _ (qa8 _),qb9]at z;by_cases w:∃q∈ms,p.1=J8 ks q.1
 . exact w
 . refine absurd (Pq fun q hq=>?_) z;show(if J8 ks q.1=p.1 then(1:Int) else 0)=0;rw[if_neg fun h=>w ⟨q,hq,h.symm⟩]
def AB{ks:List Int}(hn:ks.Nodup){ms:Ms}(hm:nd ms)(hk:∀p∈ms,p.1∈ks):∀p∈GZ ks ms,0<=p.1/\p.1<(ks.length:Int)/\Cy ks p.1∈ks/\∃q∈ms,Cy ks p.1=q.1:=fun p hp=>by
 obtain⟨q,hq,e⟩:=YW hn hm hk hp;obtain⟨a,b,c⟩:=Rf (hk q hq);rw[e];exact⟨b,c,by rw[a];exact hk q hq,q,hq,a⟩
def ID{xs:LLInt}{ks:List Int}{i:Int}(h0:0<=i)(h1:i<(ks.length:Int)):lev (Bt (sub xs ks) i)=lev (Bt xs (Cy ks i)):=by
 have hi:i.toNat<ks.length:=by omega
 have e:Bt (sub xs ks) i=(xs.getD (Cy ks i).toNat []).map (J8 ks):=by
  show(sub xs ks).getD i.toNat []=_;unfold sub Cy;rw[qa5,qa7,qa0 hi,qa5 (l:=ks),qa0 hi];rfl
 rw[e];unfold lev;rw[qa3]
def OS{xs:LLInt}{ks:List Int}(hn:ks.Nodup){ms:Ms}(hm:nd ms)(hk:∀p∈ms,p.1∈ks){k:Nat}(hl:Kv xs k ms):C5 (sub xs ks) (k:Int) (GZ ks ms)=true:=by
 refine Iz.mpr ⟨fun p hp=>?_,gQ ks ms _⟩;obtain⟨a,b,c,q,hq,e⟩:=AB hn hm hk p hp;refine⟨a,by rw[Kx];exact b,?_⟩;rw[ID a b,e];exact(hl q hq).2.2
def Zc(ks:List Int)(ms:Ms):Ms:=ms.map fun p=>(Cy ks p.1,p.2)
def pA{ks:List Int}(hn:ks.Nodup){i j:Int}(i0:0<=i)(i1:i<(ks.length:Int))(j0:0<=j)(j1:j<(ks.length:Int))(h:Cy ks i=Cy ks j):i=j:=by
 have a:=O3 hn i0 i1;have b:=O3 hn j0 j1;rw[h]at a;exact a.symm.trans b
theorem eV{ms:Ms}{f:Int->Int}(hm:nd ms)(h:∀p∈ms,∀q∈ms,f p.1=f q.1->p.1=q.1):nd (ms.map fun p=>(f p.1,p.2)):=by
 induction ms with
 | nil=>exact qi7
 | cons p ms ih =>
   unfold nd at hm ⊢;rw[qc6,qf4]at hm;rw[qc6,qc6,qf4];refine⟨fun hmem=>?_,ih hm.2 fun a ha b hb=>h a (qb0 _ ha) b (qb0 _ hb)⟩;obtain⟨q,hq,e⟩:=qd8.mp hmem;obtain⟨r,hr,rfl⟩:=qd8.mp hq;have:=h r (qb0 _ hr) p qb2 e;exact hm.1 (by rw[←this];exact qg3 (f:=(·.1)) hr)
theorem RW(φ:Int->Int)(f:Int->Int):∀ms:Ms,wF φ (ms.map fun p=>(f p.1,p.2))=wF (fun p=>φ (f p)) ms
 | []=>rfl
 | p::ms=>by rw[qc6,Cj,Cj,RW φ f ms]
def SJ{ks:List Int}(hn:ks.Nodup){ms:Ms}(hm:nd ms)(hk:∀p∈ms,p.1∈ks):nd (Zc ks (GZ ks ms)) :=
 eV (f:=Cy ks) (Yh ks ms _) fun p hp q hq e=>by
  obtain⟨a,b,_⟩:=AB hn hm hk p hp;obtain⟨c,d,_⟩:=AB hn hm hk q hq;exact pA hn a b c d e
def vR{ks:List Int}(hn:ks.Nodup){ms:Ms}(hm:nd ms)(hk:∀p∈ms,p.1∈ks)(e:Int):Be (Zc ks (GZ ks ms)) e=Be ms e:=by
 rw[←T7 e (SJ hn hm hk)];unfold Zc GZ;rw[RW,LI _ _ _ _ (qa8 _),qb9,←T7 e hm];unfold wF
 congr 1
 refine qg4 fun p hp=>?_;show p.2*dl e (Cy ks (J8 ks p.1))=_;rw[(Rf (hk p hp)).1]
def qN(xs:LLInt)(p:Key × V):Prop:=∃n m:Int,p=(.inl n,.int m)/\0<=n/\n<(xs.length:Int)/\m≠0
def Xi(xs:LLInt)(p:Key × V):Int:=match p.1 with
 | .inl n=>Ca (xs.getD n.toNat []).length
 | .inr _=>0
theorem mK{xs:LLInt}{k:Int}{p:Key × V}(h:Ej xs k (vD (kV p.1)) (vD p.2)=true):qN xs p:=by
 obtain⟨kk,v⟩:=p;unfold Ej at h;rw[qb4]at h;cases kk with
 | inr s=>exact nomatch (show false=true from h.1)
 | inl n =>
   have h1:=Sm (show B8 xs (.int n) k=true from h.1);cases v with
   | int m=>exact⟨n,m,rfl,h1.1,h1.2,by have:=qc9 (show decide (¬m=0)=true from h.2);exact this⟩
   | _=>exact nomatch (show false=true from h.2)
def bG{xs:LLInt}{k:Int}{p:Key × V}(h:qN xs p):Ej xs k (vD (kV p.1)) (vD p.2)=decide (Xi xs p=k):=by
 obtain⟨n,m,rfl,h0,h1,h2⟩:=h;show((decide (0<=n)&&decide (n<(xs.length:Int))&&decide (Ca (xs.getD n.toNat []).length=k))&&decide (¬m=0))=decide (Ca (xs.getD n.toNat []).length=k);rw[qd3 h0,qd3 h1,qd3 h2];simp
def xR{xs:LLInt}{kvs:List (Key × V)}{p:Key × V}(hp:p∈kvs)(h:¬qN xs p):(false=true↔∃k:Nat,k<4/\Dr xs (k:Int) (.dk kvs)=true) :=
 ⟨(fun z=>nomatch z),fun⟨k,_,z⟩=>absurd (mK (qc8.mp z p hp)) h⟩
def oV{xs:LLInt}{kvs:List (Key × V)}(h:∀p∈kvs,qN xs p)(k:Int):Dr xs k (.dk kvs)=true↔∀p∈kvs,Xi xs p=k:=by
 show(kvs.all fun p=>Ej xs k (vD (kV p.1)) (vD p.2))=true↔_;rw[qc8];exact⟨fun z p hp=>qc9 ((bG (h p hp)).symm.trans (z p hp)),fun z p hp=>(bG (h p hp)).trans (qd3 (z p hp))⟩
def nG{xs:LLInt}(h4:∀x∈xs,x.length<=4){p:Key × V}(h:qN xs p):∃k:Nat,k<4/\Xi xs p=(k:Int):=by
 obtain⟨n,m,rfl,h0,h1,h2⟩:=h;have:=h4 _ (qb5 (Iq h0 h1));refine⟨lev (Bt xs n),by unfold lev;omega,?_⟩;show Ca (xs.getD n.toNat []).length=_;exact SK _
def Jc(xs:LLInt)(ms:Ms)(H H':Hp)(R:Addr):Prop:=∃L F:Addr,H L=none/\H F=none/\L≠F/\H' R=some (.tup [.ref L,.ref F])/\H' L=some (.dK (cK (GZ (kF xs) (Cv xs (cF xs).2 ms []).1)))/\H' F=some (.dK (cK (Cv xs (cF xs).2 ms []).2))
def Ww(K:W.Frag)(xs:LLInt)(H:Hp)(T:Addr):Prop:=∃(L P M:Addr) (us qu:List V),H T=some (.tup [.ref L,.ref P,.ref M])/\H L=some (.lst us)/\Reps K H us ((sub xs (kF xs)).map tI)/\H P=some (.lst ((kF xs).map V.int))/\H M=some (.lst qu)/\Reps K H qu (((cF xs).2).map tI)
def qY:TT->Prop
 | .odd kvs=>kvs=[(.bl true,.int 1)]
 | _=>True
def Tl(xs:LLInt)(F:Addr)(G:Hp)(fs:List V):Prop:=∀u∈fs,∃(d:Addr) (ms:Ms),u=.ref d/\d≠F/\G d=some (.dK (cK ms))/\nd ms/\DF xs ms/\ms.length<=2/\∀p∈ms,p.2=1\/p.2=-1
def Tl.same{xs:LLInt}{F:Addr}{G G':Hp}{fs:List V}(s:Ah G G')(h:Tl xs F G fs):Tl xs F G' fs:=fun u hu=>by
 obtain⟨d,ms,e,n,e',r⟩:=h u hu;exact⟨d,ms,e,n,s _ _ e',r⟩
def Tl.put{xs:LLInt}{F:Addr}{G:Hp}{fs:List V}{d:Addr}{ms:Ms}(h:Tl xs F G fs)(hd:G d=some (.dK (cK ms)))(nd1:d≠F)(h1:nd ms)(h2:DF xs ms)(h3:ms.length<=2)(h4:∀p∈ms,p.2=1\/p.2=-1):Tl xs F (upd G F (.lst (fs++[.ref d]))) (fs++[.ref d]):=fun u hu=>by
 rcases qd6.mp hu with z | z
 . obtain⟨d',ms',e,n',e',r⟩:=h u z;exact⟨d',ms',e,n',by rw[Ai n'];exact e',r⟩
 . rw[qb7.mp z];exact⟨d,ms,rfl,nd1,by rw[Ai nd1];exact hd,h1,h2,h3,h4⟩
def JJ{H:Hp}{p:Addr}{o o':HO}(h:H p=none):Ah H (upd (upd H p o) p o')/\upd (upd H p o) p o' p=some o':=⟨(Ah.new h).turn h,Ab⟩
def MY{H:Hp}{p:Addr}{o:HO}(h:H p=none):Ah H (upd H p o)/\upd H p o p=some o:=⟨Ah.new h,Ab⟩
noncomputable abbrev sL(a p:Addr)(k:Int)(t h e m f u:Option V):St:=[rS a,iS k,rS p,t,h,e,m,f,none,u]
section
variable(K:W.Frag)
def Kz(CN CR:Addr):Sp:=fun vs H Q E=>∃(a:Addr) (x:V) (xs:LLInt),vs=[.ref a,x]/\LT K H (.ref a) xs/\B0 xs/\xs.length<=40 ∧
 ((∃(b:Addr) (ms:Ms) (kc:Nat),x=.ref b/\kc<4/\H b=some (.dK (cK ms))/\nd ms/\ms.length<=200/\C5 xs (kc:Int) ms=true/\(Bi xs ms=[]->∀(R:Addr) (H':Hp),Ah H H'->Jc xs ms H H' R->Q (.ref R) H') ∧
     (Bi xs ms≠[]->∀(d c:Addr) (H':Hp),Ah H H'->H' d=some (.xd [("edge",.ref c)])->H' c=some (.dK (cK (Bi xs ms)))->E (.ref CR) (some d) H')) ∨
   (DG H xs x/\∀H',Ah H H'->E (.ref CN) none H'))
def Ky:Sp:=fun vs H Q _=>∃(a:Addr) (xs:LLInt) (b:Addr) (ms:Ms) (kc:Nat),vs=[.ref a,.ref b]/\LT K H (.ref a) xs/\B0 xs/\xs.length<=40/\kc<4/\H b=some (.dK (cK ms))/\nd ms/\ms.length<=200/\C5 xs (kc:Int) ms=true/\Bi xs ms=[] ∧
 ∀(R:Addr) (H':Hp),Ah H H'->Jc xs ms H H' R->Q (.ref R) H'
def Ka:Sp:=fun vs H Q _=>∃(a b:Addr) (xs:LLInt) (ms:Ms),vs=[.ref a,.ref b]/\LT K H (.ref a) xs/\(∀x∈xs,x.length<=4)/\H b=some (.dK (cK ms))/\DF xs ms/\ms.length<=200/\Xh H (E3 (zN xs ms ms.length)) Q
def Ps(_K:W.Frag):Sp:=fun vs H Q _=>∃(a b:Addr) (n:Int) (ms ns:Ms),vs=[.ref a,.int n,.ref b]/\H a=some (.dK (cK ms))/\H b=some (.dK (cK ns))/\ms.length<=400/\ns.length<=400/\(∀p∈ns,IntMulOk n p.2)/\Xh H (rY ms n ns) Q
def Ji:Sp:=fun vs H Q _=>∃(a c:Addr) (k:Int) (xs:LLInt) (ns:List Int),vs=[.ref a,.int k,.ref c]/\LT K H (.ref a) xs/\xs.length<=40/\(∀x∈xs,x.length<=4)/\SqL K H c (ns.map V.int)/\ns.length<=4 ∧
 ∀ms:Ms,nd ms->DF xs ms->ms.length<=4->Xh H ms Q
def sY(xs:LLInt)(H:Hp)(us:List V):Prop:=us.length<=2000/\∀u∈us,∃(d:Addr) (ms:Ms),u=.ref d/\H d=some (.dK (cK ms))/\nd ms/\DF xs ms/\ms.length<=2/\∀p∈ms,p.2=1\/p.2=-1
def Qx:Sp:=fun vs H Q _=>∃(a:Addr) (k:Int) (xs:LLInt),vs=[.ref a,.int k]/\LT K H (.ref a) xs/\xs.length<=40/\(∀x∈xs,x.length<=4)/\∀(D:Addr) (us:List V) (H':Hp),Ah H H'->H' D=some (.lst us)->sY xs H' us->Q (.ref D) H'
def Mg:Sp:=fun vs H Q _=>∃(a c:Addr) (k:Int) (xs:LLInt) (ns:List Int),vs=[.ref a,.int k,.ref c]/\LT K H (.ref a) xs/\xs.length<=40/\B0 xs/\SqL K H c (ns.map V.int)/\ns.length<=4 ∧
 ∀ms:Ms,nd ms->DF xs ms->ms.length<=30->Xh H ms Q
def Jh:Sp:=fun vs H Q _=>∃(a:Addr) (x:V) (xs:LLInt) (t:TT),vs=[.ref a,x]/\LT K H (.ref a) xs/\(∀x∈xs,x.length<=4)/\Hj H x t/\qY t ∧
 ∀(c:Bool) (H':Hp),Ah H H'->(c=true↔∃k:Nat,k<4/\Dr xs (k:Int) t=true)->Q (.bl c) H'
def gG(H:Hp)(x:V):Prop:=(∃(b:Addr) (ms:Ms),x=.ref b/\H b=some (.dK (cK ms))/\nd ms/\ms.length<=40)\/(∃(b:Addr),x=.ref b/\OddAt H b [(.bl true,.int 1)])\/(∃b:Addr,x=.ref b/\(H b=some (.dK [(.inl 0,.bl true)])\/H b=some (.dK [(.inr "0",.int 1)])))\/(∃(b:Addr),x=.ref b/\(H b=some (.lst [])\/(∃c,H b=some (.lst [.ref c])/\H c=some (.tup [.int 0,.int 1]))))\/(∃b:Addr,x=.ref b/\H b=some (.tup []))\/(x=.non\/x=.str ""\/x=.int 0)
def Qy:Sp:=fun vs H Q _=>∃(a s:Addr) (xs:LLInt) (ns:List Int),vs=[.ref a,.ref s]/\LT K H (.ref a) xs/\xs.length<=40/\B0 xs/\SqL K H s (ns.map V.int)/\ns.length<=63 ∧
 ∀(x:V) (H':Hp),Ah H H'->gG H' x->Q x H'
def O0:Sp:=fun vs H Q _=>∃(R T a b:Addr) (xs:LLInt) (ms:Ms) (kc:Nat) (H0:Hp),vs=[.ref R,.ref T,.ref a,.ref b]/\Jc xs ms H0 H R/\Ww K xs H T/\LT K H (.ref a) xs/\B0 xs/\xs.length<=40/\H b=some (.dK (cK ms))/\nd ms/\ms.length<=200/\kc<4/\C5 xs (kc:Int) ms=true/\Bi xs ms=[] ∧
 ∀H',Ah H H'->Q (.bl true) H'
end
def BadU(K:W.Frag)(H:Hp)(x y:V):Prop:=(∃b b':Addr,x=.ref b/\y=.ref b'/\OddAt H b [(.bl true,.int 1)]/\OddAt H b' [(.bl true,.int 1)]) ∨
 (∃(b b':Addr) (k:Key) (v:V),x=.ref b/\y=.ref b'/\PY v/\lF v/\(∀xs k',Ej xs k' (vD (kV k)) (vD v)=false)/\H b=some (.dK [(k,v)])/\H b'=some (.dK [(k,v)])) ∨
 (y=x/\∃d t,Rep K H x d/\dep d<=8/\Hj H x t/\qY t/\∀xs k',Dr xs k' t=false)
theorem BadU.same{K:W.Frag}{H H':Hp}{x y:V}(s:Ah H H')(h:BadU K H x y):BadU K H' x y:=by
 rcases h with⟨b,b',e,e',h,h'⟩|⟨b,b',k,v,e,e',h1,h2,h3,h,h'⟩|⟨e,d,t,h1,h2,h3,h4⟩
 . exact .inl ⟨b,b',e,e',OddAt.same s h,OddAt.same s h'⟩
 . exact .inr (.inl ⟨b,b',k,v,e,e',h1,h2,h3,s _ _ h,s _ _ h'⟩)
 . exact .inr (.inr ⟨e,d,t,Rep.same s h1,h2,h3.same s,h4⟩)
def Yf{H:Hp}{b:Addr}(h:OddAt H b [(.bl true,.int 1)]):Hj H (.ref b) (.odd [(.bl true,.int 1)]):=.inl ⟨b,rfl,h,by simp,fun p hp=>by rw[qb7.mp hp];exact⟨.inl True.intro,True.intro⟩⟩
def mO(xs:LLInt)(k:Int):Dr xs k (.odd [(.bl true,.int 1)])=false:=rfl
def cD{H:Hp}{b:Addr}{k:Key}{v:V}(h:H b=some (.dK [(k,v)]))(hv:lF v):Hj H (.ref b) (.dk [(k,v)]):=.inl ⟨b,rfl,h,by simp,fun p hp=>by rw[qb7.mp hp];exact hv⟩
def SV{k:Key}{v:V}(h:∀xs k',Ej xs k' (vD (kV k)) (vD v)=false)(xs:LLInt)(k':Int):Dr xs k' (.dk [(k,v)])=false:=by
 show(Ej xs k' (vD (kV k)) (vD v)&&true)=false;rw[h];rfl
def BadU.thing{K:W.Frag}{H:Hp}{x y:V}(h:BadU K H x y):∃t,Hj H x t/\qY t/\∀xs k',Dr xs k' t=false:=by
 rcases h with⟨b,b',rfl,e',h,h'⟩|⟨b,b',k,v,rfl,e',h1,h2,h3,h,h'⟩|⟨e,d,t,h1,h2,h3,h4⟩
 . exact⟨_,Yf h,rfl,mO⟩
 . exact⟨_,cD h h2,True.intro,SV h3⟩
 . exact⟨t,h3,h4⟩
def BadU.no{K:W.Frag}{H:Hp}{x y:V}(h:BadU K H x y)(xs:LLInt):DG H xs y:=by
 rcases h with⟨b,b',e,rfl,h,h'⟩|⟨b,b',k,v,e,rfl,h1,h2,h3,h,h'⟩|⟨rfl,d,t,h1,h2,h3,h4,h5⟩
 . exact⟨_,Yf h',mO xs⟩
 . exact⟨_,cD h' h2,SV h3 xs⟩
 . exact⟨t,h3,h5 xs⟩
def BadU.ne{K:W.Frag}{H:Hp}{x y:V}{Q:V->Hp->Prop}(h:BadU K H x y)(q:Q (.bl false) H):QB (LV K 8) qC y x H Q:=by
 rcases h with⟨b,b',rfl,rfl,h,h'⟩|⟨b,b',k,v,rfl,rfl,h1,h2,h3,h,h'⟩|⟨rfl,d,t,h1,h2,h3,h4⟩
 . exact .inr ⟨b',b,rfl,rfl,.inr (.inr ⟨h',h,q⟩)⟩
 . exact .inr ⟨b',b,rfl,rfl,.inr (.inl ⟨k,v,h1,.inl h',.inl h,q⟩)⟩
 . exact .inl ⟨d,d,h1,h1,h2,by rw[Kp];exact q⟩
def JZ(n:Nat):dep (.lst ((Mw n).map L2.D.bl))<=8:=by
 show deps ((Mw n).map L2.D.bl)+1<=8;rw[cE];decide
def Jc.same{xs:LLInt}{ms:Ms}{H H' H'':Hp}{R:Addr}(s:Ah H' H'')(h:Jc xs ms H H' R):Jc xs ms H H'' R:=by
 obtain⟨L,F,a,b,c,d,e,f⟩:=h;exact⟨L,F,a,b,c,s _ _ d,s _ _ e,s _ _ f⟩
def qU{xs:LLInt}(hs:B0 xs){k:Nat}{ms:Ms}(h:Kv xs k ms):∀p∈Bi xs ms,0<=p.1/\p.1<(xs.length:Int)/\lev (Bt xs p.1)+1=k:=fun p hp=>by
 have e:=Is (Et xs ms _) hp;have z:=Ir xs ms _ p hp;rw[←e]at z;have z:¬Be (Bi xs ms) p.1=0:=z;rw[Iy]at z;by_cases q:∃r∈ms,P9 (xs.getD r.1.toNat []) p.1≠0
 . obtain⟨r,hr,ho⟩:=q;obtain⟨r0,r1,r2⟩:=h r hr;obtain⟨a,b,c⟩:=Na hs r0 r1 (Ut (show oX xs p.1 r.1≠0 from ho));exact⟨a,b,by omega⟩
 . exact absurd (Pq fun r hr=>Decidable.byContradiction fun w=>q ⟨r,hr,w⟩) z
def GA{xs:LLInt}(hs:B0 xs){k:Nat}(hk:k<4){ms:Ms}(h:Kv xs k ms):∃j:Nat,j<4/\C5 xs (j:Int) (Bi xs ms)=true:=by
 refine⟨k-1,by omega,Iz.mpr ⟨fun p hp=>?_,Ir xs ms _⟩⟩;obtain⟨a,b,c⟩:=qU hs h p hp;exact⟨a,b,by omega⟩
theorem CQ{xs:LLInt}(h4:∀x∈xs,x.length<=4){ms:Ms}(h:¬∃kc:Nat,kc<4/\C5 xs (kc:Int) ms=true)(k:Int):Dr xs k (.dk (cK ms))=false:=by
 rw[Ik];cases e:C5 xs k ms with
 | false=>rfl
 | true =>
   exfalso
   cases ms with
   | nil=>exact h ⟨0,by decide,rfl⟩
   | cons q r =>
     have hq:=qc8.mp e q qb2;obtain⟨⟨a,b,c⟩,_⟩:=Ts.mp hq;have:=h4 _ (qb5 (Iq a b));refine h ⟨lev (Bt xs q.1),by unfold lev;omega,?_⟩;rw[c];exact e
theorem tK{xs:LLInt}{ms:Ms}(h:Bi xs ms=[]):E3 (zN xs ms ms.length)=[]:=by
 cases e:E3 (zN xs ms ms.length) with
 | nil=>rfl
 | cons q r =>
   have hq:q∈E3 (zN xs ms ms.length):=by rw[e];exact qb2
   have a:=Is (U0 (Uy xs ms _)) hq;rw[Vm,h,Ko]at a;exact absurd a.symm (GP _ q hq)
def pO{xs:LLInt}{ms:Ms}:sameC (Bi xs ms) (E3 (zN xs ms ms.length))=true :=
 X4 (Et xs ms _) (U0 (Uy xs ms _)) (Ir xs ms _) (GP _) fun k=>(Vm xs ms k).symm
theorem WT{xs:LLInt}{ms:Ms}(h:Bi xs ms≠[]):sameC (E3 (zN xs ms ms.length)) []=false:=by
 cases e:E3 (zN xs ms ms.length) with
 | nil =>
   exfalso
   cases eb:Bi xs ms with
   | nil=>exact h eb
   | cons q r =>
     have hq:q∈Bi xs ms:=by rw[eb];exact qb2
     have a:=Is (Et xs ms _) hq;rw[show Jt xs ms ms.length=Bi xs ms from rfl,←Vm,e,Ko]at a;exact Ir xs ms _ q hq a.symm
 | cons q r=>rfl
def IM{K:W.Frag}{CN CR:Addr}{vs:List V}{H:Hp}{Q:VK}{E E':XK}(h:Ky K vs H Q E):Kz K CN CR vs H Q E':=by
 obtain⟨a,xs,b,ms,kc,rfl,hL,hs,Tj,hk,hb,hn,hm,hc,he,k⟩:=h;exact⟨a,.ref b,xs,rfl,hL,hs,Tj,.inl ⟨b,ms,kc,rfl,hk,hb,hn,hm,hc,fun _=>k,fun z=>absurd he z⟩⟩
def eX{H1:Hp}{e d c C:Addr}{o:HO}{fs:List (Str × V)}(he:H1 e=none)(hc:upd H1 e (En e C) c=none)(hd:upd (upd H1 e (En e C)) c o d=none) :
 Ah H1 (upd (upd (upd (upd H1 e (En e C)) c o) d (.xd fs)) e (madeE e C d))/\upd (upd (upd (upd H1 e (En e C)) c o) d (.xd fs)) e (madeE e C d) d=some (.xd fs)/\upd (upd (upd (upd H1 e (En e C)) c o) d (.xd fs)) e (madeE e C d) c=some o:=by
 have hce:c≠e:=fun z=>by rw[z,Ab]at hc;cases hc
 have hc1:H1 c=none:=by rw[Ai hce]at hc;exact hc
 have hdc:d≠c:=fun z=>by rw[z,Ab]at hd;cases hd
 have VL:d≠e:=fun z=>by rw[z,Ai hce.symm,Ab]at hd;cases hd
 have hd1:H1 d=none:=by rw[Ai hdc,Ai VL]at hd;exact hd
 refine⟨fun b u q1=>?_,by rw[Ai VL,Ab],by rw[Ai hce,Ai hdc.symm,Ab]⟩;rw[Ai (Ap q1 he),Ai (Ap q1 hd1),Ai (Ap q1 hc1),Ai (Ap q1 he)];exact q1
structure wH(K:W.Frag)(Ds:List Addr)(C:Addr)(n:Nat):Prop where
 x:ExcC K C
 v:PySem.W.kitOne K (.ref C) (.type "ValueError")=some true
 i:∀(k:Nat) (D:Addr),Ds[k]?=some D->PySem.W.kitOne K (.ref C) (.ref D)=some (decide (k+1=n))
theorem NC{K:W.Frag}{C c1 c2 c3 c4 c5 c6 c7 c8 c9 zT ZS c12 zS ZR zR:Addr}{n:Nat}(h1:PySem.W.kitOne K (.ref C) (.ref c1)=some (decide (1=n)))(h2:PySem.W.kitOne K (.ref C) (.ref c2)=some (decide (2=n)))(h3:PySem.W.kitOne K (.ref C) (.ref c3)=some (decide (3=n)))(h4:PySem.W.kitOne K (.ref C) (.ref c4)=some (decide (4=n)))(h5:PySem.W.kitOne K (.ref C) (.ref c5)=some (decide (5=n)))(h6:PySem.W.kitOne K (.ref C) (.ref c6)=some (decide (6=n)))(h7:PySem.W.kitOne K (.ref C) (.ref c7)=some (decide (7=n)))(h8:PySem.W.kitOne K (.ref C) (.ref c8)=some (decide (8=n)))(h9:PySem.W.kitOne K (.ref C) (.ref c9)=some (decide (9=n)))(h10:PySem.W.kitOne K (.ref C) (.ref zT)=some (decide (10=n)))(h11:PySem.W.kitOne K (.ref C) (.ref ZS)=some (decide (11=n)))(h12:PySem.W.kitOne K (.ref C) (.ref c12)=some (decide (12=n)))(h13:PySem.W.kitOne K (.ref C) (.ref zS)=some (decide (13=n)))(h14:PySem.W.kitOne K (.ref C) (.ref ZR)=some (decide (14=n)))(h15:PySem.W.kitOne K (.ref C) (.ref zR)=some (decide (15=n))) :
 ∀(k:Nat) (D:Addr),([c1,c2,c3,c4,c5,c6,c7,c8,c9,zT,ZS,c12,zS,ZR,zR]:List Addr)[k]?=some D->PySem.W.kitOne K (.ref C) (.ref D)=some (decide (k+1=n)):=fun k D e=>by
 match k,e with
 | 0,e=>cases e;exact h1
 | 1,e=>cases e;exact h2
 | 2,e=>cases e;exact h3
 | 3,e=>cases e;exact h4
 | 4,e=>cases e;exact h5
 | 5,e=>cases e;exact h6
 | 6,e=>cases e;exact h7
 | 7,e=>cases e;exact h8
 | 8,e=>cases e;exact h9
 | 9,e=>cases e;exact h10
 | 10,e=>cases e;exact h11
 | 11,e=>cases e;exact h12
 | 12,e=>cases e;exact h13
 | 13,e=>cases e;exact h14
 | 14,e=>cases e;exact h15
 | k+15,e=>simp at e
section
variable(K:W.Frag)
def Qz(c1 c2 c3 c4 c5 c6 c7 c8 c9 zT ZS c12 zS ZR zR:Addr):Sp:=fun vs H Q _=>∃(e C:Addr) (o:OAddr) (n:Nat),vs=[.ref e]/\H e=some (excX e (.ref C) o)/\wH K [c1,c2,c3,c4,c5,c6,c7,c8,c9,zT,ZS,c12,zS,ZR,zR] C n/\∀(M:Addr) (H':Hp),Ah H H'->H' M=some (.lst ((Mw n).map V.bl))->Q (.ref M) H'
end
end Hb
namespace L2
open PySem PySem.Spec PyProof.Rows
theorem By{X:Cx}{K:W.Frag}(hK:X.K=K:=by rfl):CallR X (.builtin "isinstance") (fun xs H Q=>∃(e C:Addr) (o:OAddr) (y:V) (c:Value) (b:Bool),xs=[.ref e,y]/\RelV y c/\(∀u,RelV y u->u=c)/\H e=some (excX e (.ref C) o)/\ExcC K C/\PySem.W.kitOne K (.ref C) c=some b/\Q (.bl b) H):=by
 intro Ac s σ H xs us Q I r h;obtain⟨e,C,o,y,c,b,h1,h2,h3,h4,h5,h6,h7⟩:=h;cases o with
 | none=>exact fE hK Ac s σ H xs us Q I r ⟨e,C,y,c,b,h1,h2,h3,h4,h5,h6,h7⟩
 | some d=>exact FE hK Ac s σ H xs us Q I r ⟨e,C,d,y,c,b,h1,h2,h3,h4,h5,h6,h7⟩
end L2
namespace Hb
open PySem L2
def Hk(i:Nat):Stmt:=PySem.Challenge.pw_holebook_k64_a_round_pushed.main.body.getD i (.Pass ⟨0,0,0,0⟩)
structure Hi(K:W.Frag)(mg:Str->Option Value)(Am Ax A3 A5 A0 Ag Av A2 Ba A6 Ay Aw A4 A9 Az Ae:Addr):Prop where
 m_HoleError:mg "HoleError"=some (.ref Am)
 k_HoleError:PySem.W.ktsIn K Am "BaseException"=true
 m_NoShape:mg "NoShape"=some (.ref Ax)
 m_NoText:mg "NoText"=some (.ref A3)
 m_NoName:mg "NoName"=some (.ref A5)
 m_NoLevel:mg "NoLevel"=some (.ref A0)
 m_NoChain:mg "NoChain"=some (.ref Ag)
 e_NoChain:PySem.W.excIn K Ag bmV "ValueError.__new__"=true
 x_NoChain:ExcC K Ag
 iv_NoChain:PySem.W.kitOne K (.ref Ag) (.type "ValueError")=some true
 m_NoTable:mg "NoTable"=some (.ref Av)
 m_NoTurn:mg "NoTurn"=some (.ref A2)
 m_NoMap:mg "NoMap"=some (.ref Ba)
 m_NoGlue:mg "NoGlue"=some (.ref A6)
 m_NoPrime:mg "NoPrime"=some (.ref Ay)
 m_NoStage:mg "NoStage"=some (.ref Aw)
 m_NoPair:mg "NoPair"=some (.ref A4)
 m_NoRow:mg "NoRow"=some (.ref A9)
 m_NoPiece:mg "NoPiece"=some (.ref Az)
 m_NoRound:mg "NoRound"=some (.ref Ae)
 x_NoRound:ExcC K Ae
 k_NoRound:PySem.W.ktsIn K Ae "BaseException"=true
 iv_NoRound:PySem.W.kitOne K (.ref Ae) (.type "ValueError")=some true
 s_NoChain_HoleError:PySem.W.subIn K (.ref Ag) (.ref Am)=some true
 i_NoChain_NoShape:PySem.W.kitOne K (.ref Ag) (.ref Ax)=some false
 i_NoChain_NoText:PySem.W.kitOne K (.ref Ag) (.ref A3)=some false
 i_NoChain_NoName:PySem.W.kitOne K (.ref Ag) (.ref A5)=some false
 i_NoChain_NoLevel:PySem.W.kitOne K (.ref Ag) (.ref A0)=some false
 i_NoChain_NoChain:PySem.W.kitOne K (.ref Ag) (.ref Ag)=some true
 i_NoChain_NoTable:PySem.W.kitOne K (.ref Ag) (.ref Av)=some false
 i_NoChain_NoTurn:PySem.W.kitOne K (.ref Ag) (.ref A2)=some false
 i_NoChain_NoMap:PySem.W.kitOne K (.ref Ag) (.ref Ba)=some false
 i_NoChain_NoGlue:PySem.W.kitOne K (.ref Ag) (.ref A6)=some false
 i_NoChain_NoPrime:PySem.W.kitOne K (.ref Ag) (.ref Ay)=some false
 i_NoChain_NoStage:PySem.W.kitOne K (.ref Ag) (.ref Aw)=some false
 i_NoChain_NoPair:PySem.W.kitOne K (.ref Ag) (.ref A4)=some false
 i_NoChain_NoRow:PySem.W.kitOne K (.ref Ag) (.ref A9)=some false
 i_NoChain_NoPiece:PySem.W.kitOne K (.ref Ag) (.ref Az)=some false
 i_NoChain_NoRound:PySem.W.kitOne K (.ref Ag) (.ref Ae)=some false
 s_NoChain_NoRound:PySem.W.subIn K (.ref Ag) (.ref Ae)=some false
 i_NoRound_NoShape:PySem.W.kitOne K (.ref Ae) (.ref Ax)=some false
 i_NoRound_NoText:PySem.W.kitOne K (.ref Ae) (.ref A3)=some false
 i_NoRound_NoName:PySem.W.kitOne K (.ref Ae) (.ref A5)=some false
 i_NoRound_NoLevel:PySem.W.kitOne K (.ref Ae) (.ref A0)=some false
 i_NoRound_NoChain:PySem.W.kitOne K (.ref Ae) (.ref Ag)=some false
 i_NoRound_NoTable:PySem.W.kitOne K (.ref Ae) (.ref Av)=some false
 i_NoRound_NoTurn:PySem.W.kitOne K (.ref Ae) (.ref A2)=some false
 i_NoRound_NoMap:PySem.W.kitOne K (.ref Ae) (.ref Ba)=some false
 i_NoRound_NoGlue:PySem.W.kitOne K (.ref Ae) (.ref A6)=some false
 i_NoRound_NoPrime:PySem.W.kitOne K (.ref Ae) (.ref Ay)=some false
 i_NoRound_NoStage:PySem.W.kitOne K (.ref Ae) (.ref Aw)=some false
 i_NoRound_NoPair:PySem.W.kitOne K (.ref Ae) (.ref A4)=some false
 i_NoRound_NoRow:PySem.W.kitOne K (.ref Ae) (.ref A9)=some false
 i_NoRound_NoPiece:PySem.W.kitOne K (.ref Ae) (.ref Az)=some false
 i_NoRound_NoRound:PySem.W.kitOne K (.ref Ae) (.ref Ae)=some true
 s_NoRound_NoRound:PySem.W.subIn K (.ref Ae) (.ref Ae)=some true
 bi_HoleError:dN K Am
 ec_NoRound:∃f,Pn K Ae Am f
 ea_NoRound_edge:ErrA K Ae "edge"
 x_LEVELS:∃t,mg "LEVELS"=some (.int 4 t)
 n_isinstance:mg "isinstance"=none
 n_int:mg "int"=none
 n_bool:mg "bool"=none
 n_max:mg "max"=none
 n_len:mg "len"=none
 n_tuple:mg "tuple"=none
 n_all:mg "all"=none
 n_dict:mg "dict"=none
 n_any:mg "any"=none
 n_range:mg "range"=none
 n_enumerate:mg "enumerate"=none
 n_list:mg "list"=none
 n_ValueError:mg "ValueError"=none
 n_min:mg "min"=none
def cL(ns:List Int)(lo hi:Option Int):List Int:=(ns.drop (HT.sIx ns.length 0 lo)).take (HT.sIx ns.length ns.length hi-HT.sIx ns.length 0 lo)
def oN(ns:List Int)(lo hi:Option Int):Qh (ns.map V.int) lo hi=(cL ns lo hi).map V.int:=by
 unfold Qh cL;rw[qa3,qj4,qr7]
def ON(ns:List Int)(lo hi:Option Int):(cL ns lo hi).length<=ns.length:=by
 unfold cL;rw[qc4,qn0];omega
def X0:B0 []:=fun k q h=>by simp at h
def xV:(["face","spots"]:List Str).Nodup:=by decide +kernel
def SI:(["place","number","shape","k"]:List Str).Nodup:=by decide +kernel
def XU:(["k","shape","thing"]:List Str).Nodup:=by decide +kernel
def sI:(["place","old","number"]:List Str).Nodup:=by decide +kernel
def xU:(["old","spots","shape"]:List Str).Nodup:=by decide +kernel
def mZ:(["place","thing"]:List Str).Nodup:=by decide +kernel
def XT:(["place"]:List Str).Nodup:=by decide +kernel
def xT:(["place","kept"]:List Str).Nodup:=by decide +kernel
def SH:(["_law_place","_law_pieces"]:List Str).Nodup:=by decide +kernel
def XS:(["_law_face","_law_pieces","_law_j"]:List Str).Nodup:=by decide +kernel
def uW:(["_law_face","_law_pieces","_law_faces"]:List Str).Nodup:=by decide +kernel
def uV:(["_law_face","_law_pieces","_law_level_here"]:List Str).Nodup:=by decide +kernel
def UU:(["_law_letter"]:List Str).Nodup:=by decide +kernel
def uU:(["_law_i","_law_word"]:List Str).Nodup:=by decide +kernel
def UT:(["_law_word","_law_family","_law_words"]:List Str).Nodup:=by decide +kernel
def uT:(["_law_face","_law_words"]:List Str).Nodup:=by decide +kernel
def US:(["_law_k","_law_at"]:List Str).Nodup:=by decide +kernel
def MZ:(["_law_place","_law_pieces","_law_k"]:List Str).Nodup:=by decide +kernel
def uS:(["_law_j","_law_script"]:List Str).Nodup:=by decide +kernel
def UR:(["_law_pair"]:List Str).Nodup:=by decide +kernel
section
variable{P:Program}{w:World}{K:W.Frag}{mg:Str->Option Value}{base:Heap}{Am Ax A3 A5 A0 Ag Av A2 Ba A6 Ay Aw A4 A9 Az Ae:Addr}
abbrev F8:Stmt:=Hk 1
def AU:FnScope ["thing"] ["thing"] (Al F8):=Bl
def bE{f:Addr}{fd:FuncData}(F:Ft K "is_whole" "is_whole" F8 f fd)(T:Hi K mg Am Ax A3 A5 A0 Ag Av A2 Ba A6 Ay Aw A4 A9 Az Ae) :B4 P w K mg base Fv 1 f fd ["thing"] (E6 K):=by
 refine F.ok AU (fun vs H Q E h=>?_) (fun C7 A outer s H vs Q E hr h=>?_)
 . obtain⟨_,_,rfl,_⟩:=h;rfl
 . obtain⟨x,d,rfl,hx,k⟩:=h;refine⟨_,(Ak (A8 (Lf (As (Fq (K:=K)) T.n_isinstance A7 (Aa (pv 0) (Aa (Fo (v:=.ty "int") rfl T.n_int boot_intT rfl) Ad))) (Mo (MF (As (Fq (K:=K)) T.n_isinstance A7 (Aa (pv 0) (Aa (Fo (v:=.ty "bool") rfl T.n_bool Wf rfl) Ad)))))))),?_⟩;refine⟨_,rfl,_,_,d,rfl,.inl rfl,hx,_,rfl,?_⟩;refine ite2 (fun e=>?_) (fun e=>?_)
   . refine⟨_,rfl,_,_,d,rfl,.inr (.inl rfl),hx,_,rfl,?_⟩;have e2:D3 d=!FJ "bool" d:=by unfold D3;rw[e];rfl
     rw[e2]at k;exact k
   . have e2:D3 d=false:=by unfold D3;simp[e]
     rw[e2]at k;exact k
abbrev F7:Stmt:=Hk 4
def aU:FnScope ["piece"] ["piece"] (Al F7):=Bl
def BD{f:Addr}{fd:FuncData}(F:Ft K "level_of" "level_of" F7 f fd)(T:Hi K mg Am Ax A3 A5 A0 Ag Av A2 Ba A6 Ay Aw A4 A9 Az Ae) :B4 P w K mg base Fv 1 f fd ["piece"] (Cq K):=by
 refine F.ok aU (fun vs H Q E h=>?_) (fun C7 A outer s H vs Q E hr h=>?_)
 . obtain⟨_,_,rfl,_⟩:=h;rfl
 . obtain⟨x,ds,rfl,hx,k⟩:=h;refine⟨_,(Ak (A8 (As (Y9 (by rfl)) T.n_max Sg (Aa (Bg Mq (As (Ar (K:=K)) T.n_len qe4 (Aa (pv 0) Ad)) Aj) (Aa Aj Ad))))),?_⟩
   obtain⟨p,us,e,hq,hl⟩:∃(p:Addr) (us:List V),x=.ref p/\(SqL K H p us\/Fw K H p us)/\us.length=ds.length:=by
    rcases hx with⟨p,us,e,hq,r⟩|⟨p,us,e,hq,r⟩
    . exact⟨p,us,e,.inl hq,r.length⟩
    . exact⟨p,us,e,.inr hq,r.length⟩
   subst e;refine⟨_,rfl,p,us,rfl,hq,_,_,rfl,rfl,_,_,rfl,?_⟩;rw[hl];exact k
abbrev E8:Stmt:=Hk 6
def Z5:FnScope ["spots","piece"] ["spots","piece"] (Al E8):=Bl
def d4{f:Addr}{fd:FuncData}(F:Ft K "called_by" "called_by" E8 f fd)(T:Hi K mg Am Ax A3 A5 A0 Ag Av A2 Ba A6 Ay Aw A4 A9 Az Ae) :B4 P w K mg base Fv 1 f fd ["spots","piece"] (O2 K):=by
 refine F.ok Z5 (fun vs H Q E h=>?_) (fun C7 A outer s H vs Q E hr h=>?_)
 . obtain⟨_,_,_,_,_,rfl,_⟩:=h;rfl
 . obtain⟨b,v,ms,fs,gf,rfl,hb,hv,hfl,hlk,k⟩:=h;have Gv:=hr.u8;refine⟨_,(Ak (A8 (Dc (Iw (K:=K)) (by rfl) T.n_tuple Fi (Aa (Du (N':=["face","spots"]) (cap:=[none,some 0]) (by rfl) (by kernel_rfl) (N7 (K:=K) (pv 1)) (fun _ _ _ _=>(A1 (i:=0) xV)) (fun _ _ _ _=>C4) (fun _ _ _ _=>(b8 (u1 Gv) (pv 1) (pv 0) (fun _ _=>rfl)))) Ad)))),?_⟩;obtain⟨af,rfl,sq⟩:=TI.sq hv;refine⟨_,rfl,af,rfl,⟨_,sq⟩,fun D hD=>?_⟩
   refine Oc (K:=K) (a:=af) (xs:=fs.map V.int) (fun i ys τ H1=>Ah H H1/\H1 D=some (.lst ys)/\ys=((fs.take i).map gf).map V.int/\∃o,τ=[o,rS b])
    ⟨Ah.new hD,Ab,rfl,none,rfl⟩ (fun i ys τ H1 _ ⟨s1,_⟩=>s1.seqT sq) ?_ ?_
   . rintro i y ys τ H1 hy ⟨s1,Fu,hys,o,rfl⟩;have hi:i<fs.length:=by have:=(qa2.mp hy).1;simpa using this
     have RB:y=.int fs[i]:=by
      rw[qa7,qa0 hi]at hy;simpa using hy.symm
     subst RB;have hx:=hlk _ (qc7 hi)
     have e5:(fs.take (i+1)).map gf=(fs.take i).map gf++[gf fs[i]]:=by
      rw[qf1,qa0 hi,qb1];rfl
     generalize fs[i]=x at hx e5;refine⟨_,rfl,_,rfl,b,.int (gf x),rfl,x6 (.inl (s1 _ _ hb)) hx,Fu,Cb (by rw[hys,qa3,qa3,qc4];omega),s1.turn hD,Ab,?_,_,rfl⟩;rw[e5,qb1,hys];rfl
   . rintro ys τ H1 ⟨s1,Fu,hys,_⟩;rw[qa3,qb9]at hys;refine⟨D,_,rfl,.inl ⟨.of Fu,fun T1 hT1=>?_⟩⟩;refine k _ _ (s1.trans (Ah.new hT1)) (TI.mk ?_);rw[←hys];exact .of Ab
abbrev Ke:Stmt:=Hk 12
def X1:FnScope ["chain","place","number","total"] ["chain","place","number"] (Al Ke):=Bl
theorem iX{f:Addr}{fd:FuncData}(F:Ft K "add_at" "add_at" Ke f fd)(T:Hi K mg Am Ax A3 A5 A0 Ag Av A2 Ba A6 Ay Aw A4 A9 Az Ae) :B4 P w K mg base Fv 1 f fd ["chain","place","number"] (Hu K):=by
 refine F.ok X1 (fun vs H Q E h=>?_) (fun C7 A outer s H vs Q E hr h=>?_)
 . obtain⟨_,_,_,_,rfl,_⟩:=h;rfl
 . obtain⟨a,ms,k,n,rfl,ha,hl,kq⟩:=h;have Gv:=hr.u8
   refine⟨_,(Af (Aq (i:=3) X1.nd (Bg Dq (P4 (u1 Gv) (pv 0) (pv 1) Aj ⟨by rfl,by rfl,by rfl,by rfl⟩) (pv 2)))
    (Ak (Br (Bb C0 (pv 3) Aj (Bh _)) (Ak (Cf (MH (pv 0) (pv 1) b6 ⟨by rfl,by rfl,by rfl,by rfl⟩))) (Ak (N4 (u1 Gv) (pv 0) (pv 1) (pv 3) (by rfl)))))),?_⟩
   refine⟨_,rfl,a,rfl,.inl ⟨_,.inl ha⟩,_,rfl,_,Ty (.inl ha),_,rfl,Be ms k,n,T0 ms k,rfl,?_⟩;refine⟨_,rfl,rfl,_,rfl,?_⟩;refine ite2 (fun h1=>?_) (fun h1=>?_)
   . have e:Be ms k+n=0:=by simpa using h1
     unfold E4 at kq;rw[if_pos e]at kq;refine⟨_,rfl,a,rfl,.inl ⟨_,.inl ha⟩,_,rfl,cK ms,.inl k,ha,rfl,fun v hv=>?_,fun hn=>?_⟩
     . rw[RQ];exact kq
     . rw[gA]at hn;have hn':lookI ms k=none:=by simpa using hn
       have e2:Fy ms k=ms:=by
        unfold Fy;rw[List.filter_eq_self];intro p hp
        have:¬p.1=k:=fun z=>by
         have h3:(ms.any fun p=>decide (p.1=k))=true:=qj8.mpr ⟨p,hp,by simpa using z⟩;rw[T3]at h3;obtain⟨p',yD,e'⟩:=qd8.mp h3;rw[←e']at hn'
         have:∀(ns:Ms),p'∈ns->lookI ns p'.1≠none:=by
          intro ns
          induction ns with
          | nil=>intro z;cases z
          | cons q ns ih =>
            intro hq;rw[Cl];split
            . exact fun z=>by cases z
            . rename_i hne
              rcases qc0.mp hq with rfl | hq
              . exact absurd rfl hne
              . exact ih hq
         exact this ms yD hn'
        simpa using this
       rw[e2,tN ha]at kq;exact kq
   . have e:¬Be ms k+n=0:=by simpa using h1
     unfold E4 at kq;rw[if_neg e]at kq;exact⟨_,rfl,_,rfl,_,rfl,a,_,rfl,N8 ha hl,kq⟩
abbrev Ny:Stmt:=Hk 13
def lR:FnScope ["number","chain"] ["number","chain"] (Al Ny):=Bl
theorem ML{f:Addr}{fd:FuncData}(F:Ft K "times" "times" Ny f fd)(T:Hi K mg Am Ax A3 A5 A0 Ag Av A2 Ba A6 Ay Aw A4 A9 Az Ae) :B4 P w K mg base Fv 1 f fd ["number","chain"] (Uc K):=by
 refine F.ok lR (fun vs H Q E h=>?_) (fun C7 A outer s H vs Q E hr h=>?_)
 . obtain⟨_,_,_,rfl,_⟩:=h;rfl
 . obtain⟨n,a,ms,rfl,ha,hm,hok,k⟩:=h
   refine⟨_,(Af (Br (Bb C0 (pv 0) Aj (Bh _)) (Ak (A8 Er)) Bd)
    (Ak (A8 (Dc (We (by rfl)) (by rfl) T.n_dict Dl (Aa (MG (Du (N':=["place","old","number"]) (cap:=[none,none,some 0]) (by rfl) (by kernel_rfl) (Fl (pv 1)) (fun _ _ _ _=>(Dj (K:=K) (n:=2) (by rfl) (Bq (A1 (i:=0) sI) (Bq (A1 (i:=1) sI) Di)))) (fun _ _ _ _=>C4) (fun _ _ _ _=>(Ch (Aa (pv 0) (Aa (Bg op_mulX (pv 2) (pv 1)) Ad)))))) Ad))))),?_⟩
   refine⟨_,rfl,rfl,_,rfl,?_⟩;refine ite2 (fun h1=>?_) (fun h1=>?_)
   . have e:n=0:=by simpa using h1
     intro D hD;refine k D _ hD (Ah.new hD) ?_;rw[Ab];unfold Bw;rw[if_pos e];rfl
   have e:¬n=0:=by simpa using h1
   refine .inr ⟨a,cK ms,ha,fun hnd o=>?_⟩;refine⟨_,rfl,a,o,cK ms,rfl,Ab,fun D hD=>?_⟩;obtain⟨bZ,nDa⟩:=CA hD
   refine V2 (d:=a) (o:=o) (kvs:=cK ms) (fun i zs τ H1=>∃ts:List Addr,zs=ts.map V.ref/\ts.length=i/\(∀(j:Nat) t,ts[j]?=some t->∃p:Int × Int,ms[j]?=some p/\H1 t=some (.tup [.int p.1,.int (n*p.2)])/\t≠D)/\H1 a=some (.frz o (.dK (cK ms)))/\H1 D=some (.lst zs)/\(∀c q,c≠a->H c=some q->H1 c=some q)/\∃o1 o2,τ=[o1,o2,iS n])
    ⟨[],rfl,rfl,(fun j t z=>by simp at z),?_,Ab,?_,none,none,rfl⟩ (fun i zs τ H1 _ ⟨_,_,_,_,e,_⟩=>e) ?_ ?_
   . rw[Ai nDa.symm];exact Ab
   . intro c q n1 e2;rw[Ai (Ap e2 bZ),Ai n1];exact e2
   . rintro i kk x zs τ H1 p hx ⟨ts,rfl,rC,hts,ha1,Fu,hk1,o1,o2,rfl⟩ hp;obtain⟨q,hq,rfl,rfl⟩:=Ly hx;have hlt:i<ms.length:=(qa2.mp hq).1;have sp:Ah H1 (upd H1 p (.tup [.int q.1,.int q.2])):=Ah.new hp;refine⟨p,_,rfl,.of Ab,rfl,_,_,rfl,_,_,rfl,rfl,?_⟩;refine⟨_,rfl,_,rfl,_,rfl,_,_,rfl,rfl,hok q (qb5 hq),Bk (by simp),fun t ht=>?_⟩;have st:=sp.trans (Ah.new (o:=.tup [.int q.1,.int (n*q.2)]) ht);have xP:t≠D:=(Ap (sp _ _ Fu) ht).symm;refine⟨st _ _ Fu,Cb (by rw[qa3];omega),ts++[t],by simp,by simp[rC],fun j t' e2=>?_,?_,Ab,fun c r n1 e2=>?_,_,_,rfl⟩
     . rw[qr1]at e2;split at e2
       . obtain⟨p',RJ,h2',h3'⟩:=hts j t' e2;exact⟨p',RJ,by rw[Ai h3'];exact st _ _ h2',h3'⟩
       . rename_i hj
         have hj0:j-ts.length=0:=by
          cases hz:j-ts.length with
          | zero=>rfl
          | succ m=>rw[hz]at e2;simp at e2
         rw[hj0]at e2;have et:t=t':=by simpa using e2
         subst et;refine⟨q,by rw[show j=i by omega];exact hq,?_,xP⟩;rw[Ai xP];exact Ab
     . rw[Ai nDa.symm];exact st _ _ ha1
     . have:=hk1 c r n1 e2;rw[Ai (fun z=>by rw[z,bZ]at e2;cases e2)];exact st _ _ this
   . rintro zs τ H1 ⟨ts,rfl,rC,hts,ha1,Fu,hk1,_⟩;rw[Hg]at rC;refine⟨ha1,D,ts,cK (ms.map fun p=>(p.1,n*p.2)),rfl,(by rw[Ai nDa];exact Fu),(by rw[Hg,qa3];exact rC),fun i t e2=>?_,fun E hE=>?_⟩
     . obtain⟨p,RJ,h2',_⟩:=hts i t e2;refine⟨(.inl p.1,.int (n*p.2)),?_,?_⟩
       . unfold cK;rw[qa7,qa7,RJ];rfl
       . have nta:t≠a:=Yg h2' ha1 (fun z=>by cases z);rw[Ai nta];exact h2'
     . have s1:Ah H (upd H1 a (.dK (cK ms))):=fun c q e2=>by
        by_cases z:c=a
        . subst z;rw[ha]at e2;cases e2;exact Ab
        . rw[Ai z];exact hk1 c q z e2
       refine k E _ (s1.free hE) (s1.trans (Ah.new hE)) ?_;rw[Ab];have hnd':nd ms:=Mt.mp hnd;rw[Li _ [] (by rw[qm2];exact Mt.mpr (EU hnd' n))];unfold Bw;rw[if_neg e,qm2]
abbrev Ct:Stmt:=qZ (Hk 30) 0
def Px:FnScope ["self","edge"] ["self","edge"] (Al Ct):=Bl
def P8{f:Addr}{fd:FuncData}(F:Ft K "__init__" "NoRound.__init__" Ct f fd)(T:Hi K mg Am Ax A3 A5 A0 Ag Av A2 Ba A6 Ay Aw A4 A9 Az Ae) :B4 P w K mg base Fv 1 f fd ["self","edge"] (Ev K Ae):=by
 refine F.ok Px (fun vs H Q E h=>?_) (fun C7 A outer s H vs Q E hr h=>?_)
 . obtain⟨_,_,_,rfl,_⟩:=h;rfl
 . obtain⟨e,b,ms,rfl,he,hb,hnd,hl,k⟩:=h
   refine⟨_,(Af (Cf (qI (K:=K) (by rfl) T.m_HoleError T.bi_HoleError (Aa (pv 0) (Aa b5 Ad))))
    (Ak (UD (K:=K) (pv 0) (Dc Pi (by rfl) T.n_dict Dl (Aa (pv 1) Ad)) (by rfl)))),?_⟩
   obtain⟨fi,Z⟩:=T.ec_NoRound;refine⟨_,rfl,e,Ae,Am,fi,_,rfl,he,Z,?_⟩;refine⟨_,rfl,b,cK ms,rfl,.inl hb,fun c hc=>?_⟩;have he':upd H c (.dK (cK ms)) e=some (En e Ae):=by rw[Ai (Ap he hc)];exact he
   refine⟨_,rfl,e,Ae,Am,fi,rfl,he',Z,T.ea_NoRound_edge.no,fun d hd=>?_⟩;exact k c d hc hd
abbrev F5:Stmt:=Hk 34
def aT:FnScope ["things"] ["things"] (Al F5):=Bl
theorem bD{f:Addr}{fd:FuncData}(F:Ft K "spots_of" "spots_of" F5 f fd)(T:Hi K mg Am Ax A3 A5 A0 Ag Av A2 Ba A6 Ay Aw A4 A9 Az Ae) :B4 P w K mg base Fv 1 f fd ["things"] (Jj K):=by
 refine F.ok aT (fun vs H Q E h=>?_) (fun C7 A outer s H vs Q E hr h=>?_)
 . obtain⟨_,_,rfl,_⟩:=h;rfl
 . obtain⟨b,ks,rfl,hS,hnd,hkl,kq⟩:=h;refine⟨_,(Ak (A8 (Dc (We (by rfl)) (by rfl) T.n_dict Dl (Aa (Du (N':=["place","thing"]) (cap:=[none,none]) (by rfl) (by kernel_rfl) (GL (K:=K) (by rfl) T.n_enumerate (Aa (pv 0) Ad)) (fun _ _ _ _=>(Dj (K:=K) (n:=2) (by rfl) (Bq (A1 (i:=0) mZ) (Bq (A1 (i:=1) mZ) Di)))) (fun _ _ _ _=>C4) (fun _ _ _ _=>(Ch (Aa (pv 1) (Aa (pv 0) Ad))))) Ad)))),?_⟩;refine⟨_,rfl,b,rfl,⟨_,hS⟩,fun D hD=>?_⟩
   refine KP (K:=K) (a:=b) (xs:=ks.map V.int) (fun i zs τ G=>Ah H G/\G D=some (.lst zs)/\(∃ts:List Addr,zs=ts.map V.ref/\ts.length=i/\∀(j:Nat) t,ts[j]?=some t->G t=some (.tup [.int (ks.getD j 0),.int j])/\t≠D)/\∃o1 o2,τ=[o1,o2])
    ⟨Ah.new hD,Ab,⟨[],rfl,rfl,fun j t z=>by simp at z⟩,none,none,rfl⟩ (fun i zs τ G _ ⟨g,_⟩=>g.seq hS) ?_ ?_
   . rintro i x zs τ G p hx ⟨g,Cd,⟨ts,rfl,rC,hts⟩,o1,o2,rfl⟩ hp;have hi:i<ks.length:=by have:=(qa2.mp hx).1;simpa using this
     have hxv:x=.int (ks.getD i 0):=by
      rw[qa7,qa0 hi]at hx;rw[qa5,qa0 hi];simpa using hx.symm
     subst hxv;have gp:Ah G (upd G p (.tup [.int i,.int (ks.getD i 0)])):=Ah.new hp;have hp1:(upd G p (.tup [.int i,.int (ks.getD i 0)])) p=some (.tup [.int i,.int (ks.getD i 0)]):=Ab;generalize upd G p (.tup [.int i,.int (ks.getD i 0)])=G1 at gp hp1;refine⟨p,_,rfl,.of hp1,rfl,_,_,rfl,_,_,rfl,rfl,?_⟩;refine⟨_,rfl,_,rfl,Bk (by simp),fun t ht=>?_⟩;have gt:=gp.trans (Ah.new (o:=.tup [.int (ks.getD i 0),.int i]) ht);have xP:t≠D:=(Ap (gp _ _ Cd) ht).symm;have hDt:=gt _ _ Cd;have htt:(upd G1 t (.tup [.int (ks.getD i 0),.int i])) t=some (.tup [.int (ks.getD i 0),.int i]):=Ab;generalize upd G1 t (.tup [.int (ks.getD i 0),.int i])=G2 at gt hDt htt;refine⟨hDt,Cb (by rw[qa3];omega),(g.trans gt).turn hD,Ab,⟨ts++[t],by simp,by simp[rC],fun j t' e2=>?_⟩,_,_,rfl⟩;rw[qr1]at e2;split at e2
     . obtain⟨h2',h3'⟩:=hts j t' e2;exact⟨by rw[Ai h3'];exact gt _ _ h2',h3'⟩
     . rename_i hj
       have hj0:j-ts.length=0:=by
        cases hz:j-ts.length with
        | zero=>rfl
        | succ m=>rw[hz]at e2;simp at e2
       rw[hj0]at e2;have et:t=t':=by simpa using e2
       subst et;have ej:j=i:=by omega
       subst ej;exact⟨by rw[Ai xP];exact htt,xP⟩
   . rintro zs τ G ⟨g,Cd,⟨ts,rfl,rC,hts⟩,_⟩;rw[qa3]at rC;refine⟨D,ts,cK (Oy ks),rfl,Cd,(by rw[Hg,lG];exact rC),fun i t e2=>?_,fun E hE=>?_⟩
     . obtain⟨h2',_⟩:=hts i t e2;have hi:i<ks.length:=by have:=(qa2.mp e2).1;omega
       refine⟨(.inl (ks.getD i 0),.int i),?_,h2'⟩;unfold cK;rw[qa7,AJ hi];rfl
     . refine kq E _ (g.free hE) (g.trans (Ah.new hE)) ?_;rw[Ab,Li _ [] (by rw[qm2];exact Mt.mpr (GG hnd)),qm2]
abbrev D9:Stmt:=Hk 43
def Go:FnScope ["shape","face","told","place","piece"] ["shape","face"] (Al D9):=Bl
def W8{f:Addr}{fd:FuncData}(F:Ft K "holders_of" "holders_of" D9 f fd)(T:Hi K mg Am Ax A3 A5 A0 Ag Av A2 Ba A6 Ay Aw A4 A9 Az Ae) :B4 P w K mg base Fv 1 f fd ["shape","face"] (Ju K):=by
 refine F.ok Go (fun vs H Q E h=>?_) (fun C7 A outer s H vs Q E hr h=>?_)
 . obtain⟨_,_,_,rfl,_⟩:=h;rfl
 . obtain⟨a,xs,f0,rfl,hL,Xk,h4,k⟩:=h;have Gv:=hr.u8
   refine⟨_,(Af (Aq (i:=2) Go.nd (Ck Ad))
    (Af (B3 qc3 rfl (GL (K:=K) (by rfl) T.n_enumerate (Aa (pv 0) Ad)) (Dj (K:=K) (n:=2) (by rfl) (Bq (A1 (i:=3) Go.nd) (Bq (A1 (i:=4) Go.nd) Di))) (Ak (Cf (Gd (K:=K) qd5 PySem.F.slot_list_extend PySem.F.type_list_extend jK (pv 2) (Aa (Bg uJ (Ck (Aa (pv 3) Ad)) (QV (K:=K) PySem.F.plainAttrs_tuple PySem.F.slot_tuple_count PySem.F.type_tuple_count (kmt_count (K:=K) Gv) (pv 4) (Aa (pv 1) Ad))) Ad)))))
    (Ak (A8 (pv 2))))),?_⟩
   obtain⟨_,us,z,hq,r⟩:=id hL;cases z;have ul:us.length=xs.length:=by have:=r.length;simpa using this
   refine⟨qb6 _,fun D hD=>?_⟩;have s0:Ah H (upd H D (.lst [])):=Ah.new hD
   refine⟨_,rfl,a,rfl,⟨_,s0.seq hq⟩,oA (K:=K) (a:=a) (xs:=us) (fun i σ G=>∃o3 o4,σ=[rS a,iS f0,rS D,o3,o4]/\Ah H G/\G D=some (.lst ((Ov xs f0 i).map V.int)))
    ⟨none,none,rfl,s0,Ab⟩ (fun i σ G _ ⟨_,_,_,s,_⟩=>s.seq hq) ?_ ?_⟩
   . rintro i x σ G p hx ⟨o3,o4,rfl,g,Cd⟩ hp;have hi:i<us.length:=(qa2.mp hx).1;have hix:i<xs.length:=by omega
     obtain⟨dv,zK,rv⟩:=r.getV hx
     have edv:dv=tI (xs.getD i []):=by
      rw[qa7,qa0 hix]at zK;rw[qa5,qa0 hix];simpa using zK.symm
     subst edv;have hmem:xs.getD i []∈xs:=Bz hix;have hx4:=h4 _ hmem;have gp:Ah G (upd G p (.tup [.int i,x])):=Ah.new hp;have hp1:(upd G p (.tup [.int i,x])) p=some (.tup [.int i,x]):=Ab;generalize upd G p (.tup [.int i,x])=G1 at gp hp1;have tx:TI K G1 x (xs.getD i []):=Rep.same (g.trans gp) rv;have hl:=Yq h4 f0 i;have hcl:=OU (xs.getD i []) f0;refine⟨p,_,rfl,.of hp1,rfl,_,_,rfl,_,_,rfl,rfl,?_⟩;refine⟨_,rfl,.inl ⟨rfl,_,.of (gp _ _ Cd)⟩,_,rfl,Bk (by simp),fun E hE=>?_⟩;have g2:Ah G1 (upd G1 E (.lst [.int i])):=Ah.new hE;have v2:(upd G1 E (.lst [.int i])) E=some (.lst [.int i]):=Ab;generalize upd G1 E (.lst [.int i])=G2 at g2 v2;have tx2:=qn2 g2 tx;obtain⟨ax,rfl,wK⟩:=TI.sq tx2;refine⟨_,rfl,⟨ax,_,rfl,wK⟩,_,rfl,B7 (xs.getD i []),.int f0,.int f0,rfl,tx2,rfl,(by rw[Gi];decide),?_⟩;rw[fY];refine⟨E,_,_,rfl,rfl,v2,by omega,by omega,Bk (by rw[qd0,qh3];omega),fun F hF=>?_⟩;rw[qd0,lU];have g3:Ah G2 (upd G2 F (.lst (List.replicate (Fr (xs.getD i []) f0) (.int i)))):=Ah.new hF;have v3:(upd G2 F (.lst (List.replicate (Fr (xs.getD i []) f0) (.int i)))) F=some (.lst (List.replicate (Fr (xs.getD i []) f0) (.int i))):=Ab;generalize upd G2 F (.lst (List.replicate (Fr (xs.getD i []) f0) (.int i)))=G3 at g3 v3;have gg:=(gp.trans g2).trans g3;refine⟨D,F,_,_,rfl,rfl,gg _ _ Cd,v3,Bk (by rw[qa3,qm9];omega),?_⟩;refine⟨_,_,rfl,(g.trans gg).turn hD,?_⟩;rw[Ab];show _=some (HO.lst ((Ov xs f0 i++List.replicate (Fr (xs.getD i []) f0) (i:Int)).map V.int));rw[qb1,List.map_replicate]
   . rintro σ G ⟨o3,o4,rfl,g,Cd⟩;rw[ul]at Cd;exact⟨_,rfl,k D G hD g Cd⟩
abbrev Hy:Stmt:=Hk 49
def dX:FnScope ["_law_found"] ["_law_found"] (Al Hy):=Bl
def EG{f:Addr}{fd:FuncData}(F:Ft K "_law_whole" "_law_whole" Hy f fd)(T:Hi K mg Am Ax A3 A5 A0 Ag Av A2 Ba A6 Ay Aw A4 A9 Az Ae) :B4 P w K mg base Fv 1 f fd ["_law_found"] (K6 K):=by
 refine F.ok dX (fun vs H Q E h=>?_) (fun C7 A outer s H vs Q E hr h=>?_)
 . obtain⟨_,_,rfl,_⟩:=h;rfl
 . obtain⟨x,d,rfl,hx,k⟩:=h;refine⟨_,(Ak (A8 (Lf (As (Fq (K:=K)) T.n_isinstance A7 (Aa (pv 0) (Aa (Fo (v:=.ty "int") rfl T.n_int boot_intT rfl) Ad))) (Mo (MF (As (Fq (K:=K)) T.n_isinstance A7 (Aa (pv 0) (Aa (Fo (v:=.ty "bool") rfl T.n_bool Wf rfl) Ad)))))))),?_⟩;refine⟨_,rfl,_,_,d,rfl,.inl rfl,hx,_,rfl,?_⟩;refine ite2 (fun e=>?_) (fun e=>?_)
   . refine⟨_,rfl,_,_,d,rfl,.inr (.inl rfl),hx,_,rfl,?_⟩;have e2:D3 d=!FJ "bool" d:=by unfold D3;rw[e];rfl
     rw[e2]at k;exact k
   . have e2:D3 d=false:=by unfold D3;simp[e]
     rw[e2]at k;exact k
abbrev Fd:Stmt:=Hk 50
def Z6:FnScope ["_law_script","_law_k"] ["_law_script","_law_k"] (Al Fd):=Bl
def d9{f:Addr}{fd:FuncData}(F:Ft K "_law_cell_at" "_law_cell_at" Fd f fd)(T:Hi K mg Am Ax A3 A5 A0 Ag Av A2 Ba A6 Ay Aw A4 A9 Az Ae) :B4 P w K mg base Fv 1 f fd ["_law_script","_law_k"] (Hm K):=by
 refine F.ok Z6 (fun vs H Q E h=>?_) (fun C7 A outer s H vs Q E hr h=>?_)
 . obtain⟨_,_,_,rfl,_⟩:=h;rfl
 . obtain⟨a,ns,k,rfl,hS,h0,hl,kq⟩:=h
   refine⟨_,(Af (Br (Bb P6 (pv 1) (As (Ar (K:=K)) T.n_len qe4 (Aa (pv 0) Ad)) (Bh _)) (Ak (A8 (Bp (Bj (K:=K)) (pv 0) (pv 1) (fun _ _=>rfl)))) Bd)
    (Ak (A8 Aj))),?_⟩
   refine⟨_,rfl,_,rfl,a,_,rfl,.inl hS,_,_,rfl,rfl,_,rfl,?_⟩;refine ite2 (fun h1=>?_) (fun h1=>?_)
   . have h2:k<(ns.length:Int):=by simpa using h1
     have e:Pp (ns.map V.int) k=some (.int (V6 ns k)):=by
      obtain⟨j,rfl⟩:=qj5 h0;refine Dw ?_;have hj:j<ns.length:=by omega
      rw[qa7,qa0 hj];simp[V6,hj]
     exact⟨_,rfl,_,rfl,a,_,k,_,rfl,rfl,hS,e,kq⟩
   . have h2:¬k<(ns.length:Int):=by simpa using h1
     have e:V6 ns k=0:=by
      unfold V6;have:ns.length<=k.toNat:=by omega
      simp[this]
     rw[e]at kq;exact kq
abbrev Ic:Stmt:=Hk 51
def DX:FnScope ["_law_piece"] ["_law_piece"] (Al Ic):=Bl
def eK{f:Addr}{fd:FuncData}(F:Ft K "_law_level" "_law_level" Ic f fd)(T:Hi K mg Am Ax A3 A5 A0 Ag Av A2 Ba A6 Ay Aw A4 A9 Az Ae) :B4 P w K mg base Fv 1 f fd ["_law_piece"] (Cq K):=by
 refine F.ok DX (fun vs H Q E h=>?_) (fun C7 A outer s H vs Q E hr h=>?_)
 . obtain⟨_,_,rfl,_⟩:=h;rfl
 . obtain⟨x,ds,rfl,hx,k⟩:=h;refine⟨_,(Ak (A8 (As (Y9 (by rfl)) T.n_max Sg (Aa Aj (Aa (Bg Mq (As (Ar (K:=K)) T.n_len qe4 (Aa (pv 0) Ad)) Aj) Ad))))),?_⟩
   obtain⟨p,us,e,hq,hl⟩:∃(p:Addr) (us:List V),x=.ref p/\(SqL K H p us\/Fw K H p us)/\us.length=ds.length:=by
    rcases hx with⟨p,us,e,hq,r⟩|⟨p,us,e,hq,r⟩
    . exact⟨p,us,e,.inl hq,r.length⟩
    . exact⟨p,us,e,.inr hq,r.length⟩
   subst e;refine⟨_,rfl,p,us,rfl,hq,_,_,rfl,rfl,_,_,rfl,?_⟩;rw[hl];rw[show(if ((ds.length:Nat):Int)-1 > 0 then((ds.length:Nat):Int)-1 else 0)=Ca ds.length by unfold Ca;split<;>split<;>omega];exact k
abbrev Ia:Stmt:=Hk 52
def Uh:FnScope ["_law_pieces","_law_faces","_law_face","_law_i"] ["_law_pieces","_law_faces","_law_face"] (Al Ia):=Bl
def EI{f:Addr}{fd:FuncData}(F:Ft K "_law_meets" "_law_meets" Ia f fd)(T:Hi K mg Am Ax A3 A5 A0 Ag Av A2 Ba A6 Ay Aw A4 A9 Az Ae) :B4 P w K mg base Fv 1 f fd ["_law_pieces","_law_faces","_law_face"] (Nw K):=by
 refine F.ok Uh (fun vs H Q E h=>?_) (fun C7 A outer s H vs Q E hr h=>?_)
 . obtain⟨_,_,_,_,_,rfl,_⟩:=h;rfl
 . obtain⟨a,v,xs,fs,f0,rfl,hL,hv,f1,f2,hg,hf4,GU,k⟩:=h
   refine⟨_,(Af (Br (Bb C0 (As (Ar (K:=K)) T.n_len qe4 (Aa (Bp (Bj (K:=K)) (pv 0) (pv 2) (fun _ _=>rfl)) Ad)) Aj (Bh _)) (Ak (A8 Es)) Bd)
    (Af (B3 qc3 rfl (B1 (by rfl) T.n_range (Aa (As (Ar (K:=K)) T.n_len qe4 (Aa (pv 1) Ad)) Ad)) (A1 (i:=3) Uh.nd) (Ak (Br (Bb Yd (Bp (Bx (K:=K)) (Bp (Bj (K:=K)) (pv 0) (pv 2) (fun _ _=>rfl)) (pv 3) (fun _ _=>rfl)) (Bp (Bx (K:=K)) (Bp (Bj (K:=K)) (pv 0) (Bp (Bx (K:=K)) (pv 1) (pv 3) (fun _ _=>rfl)) (fun _ _=>rfl)) (Bg Mq (As (Ar (K:=K)) T.n_len qe4 (Aa (pv 1) Ad)) Aj) (fun _ _=>rfl)) (Bh _)) (Ak (A8 Es)) Bd)))
    (Ak (A8 Es)))),?_⟩
   obtain⟨xu,vx,WL,hvx,tvx⟩:=LT.get hL f1 f2;obtain⟨ax,rfl,wK⟩:=TI.sq tvx;obtain⟨af,rfl,tX⟩:=TI.sq hv;refine⟨_,rfl,_,rfl,a,xu,_,_,rfl,rfl,WL,hvx,ax,_,rfl,.inr wK,rfl,_,rfl,?_⟩;rw[qa3];refine ite2 (fun h1=>?_) (fun h1=>?_)
   . have hz:(xs.getD f0.toNat []).length=0:=by
      have:((xs.getD f0.toNat []).length:Int)=0:=by simpa using h1
      omega
     have e:meetsB xs fs f0=true:=by unfold meetsB;rw[qd3 hz];rfl
     rw[e]at k;exact k
   have hne:¬(xs.getD f0.toNat []).length=0:=fun z=>h1 (by rw[z];rfl);obtain⟨c1,c2⟩:=GU.resolve_left hne;have em:meetsB xs fs f0=(List.range fs.length).all fun i=>decide ((xs.getD f0.toNat []).getD i 0=(xs.getD (fs.getD i 0).toNat []).getD (fs.length-1) 0):=by unfold meetsB;rw[qe3 hne];rfl
   refine⟨_,rfl,af,_,rfl,.inr tX,_,rfl,by rw[qa3];omega,by rw[qa3];omega,?_⟩;rw[qa3];refine C3 (lo:=0) (n:=fs.length) (fun i σ G=>∃o3,σ=[rS a,rS af,iS f0,o3]/\H=G/\∀i',i'<i->(xs.getD f0.toNat []).getD i' 0=(xs.getD (fs.getD i' 0).toNat []).getD (fs.length-1) 0) ⟨_,rfl,rfl,fun i' h=>absurd h (by omega)⟩ ?_ ?_
   . rintro i σ G hi ⟨o3,rfl,rfl,hall⟩;rw[show(0:Int)+(i:Int)=(i:Int) by omega];have hgm:=Bz (d:=0) hi;obtain⟨g0,g1⟩:=hg _ hgm;have c3:=c2 _ hgm
     have Ah4:Pp (fs.map V.int) (i:Int)=some (.int (fs.getD i 0)):=by
      have:=Hh (sp:=fs) (x:=(i:Int)) (by omega) (by omega)
      rwa [qd0]at this
     have Ah2:Pp ((xs.getD f0.toNat []).map V.int) (i:Int)=some (.int ((xs.getD f0.toNat []).getD i 0)):=by
      have:=Hh (sp:=xs.getD f0.toNat []) (x:=(i:Int)) (by omega) (by omega)
      rwa [qd0]at this
     have Ah3:Pp ((xs.getD (fs.getD i 0).toNat []).map V.int) ((fs.length:Int)-1)=some (.int ((xs.getD (fs.getD i 0).toNat []).getD (fs.length-1) 0)):=by
      have:=Hh (sp:=xs.getD (fs.getD i 0).toNat []) (x:=(fs.length:Int)-1) (by omega) (by omega)
      rwa [show((fs.length:Int)-1).toNat=fs.length-1 by omega]at this
     obtain⟨gu,vg,hgq,hvg,tvg⟩:=LT.get hL g0 g1;obtain⟨ag,rfl,sqg⟩:=TI.sq tvg;refine⟨_,rfl,_,rfl,a,xu,_,_,rfl,rfl,WL,hvx,_,rfl,ax,_,_,_,rfl,rfl,wK,Ah2,_,rfl,_,rfl,_,rfl,af,_,_,_,rfl,rfl,tX,Ah4,a,gu,_,_,rfl,rfl,hgq,hvg,_,rfl,af,_,rfl,.inr tX,_,_,rfl,rfl,ag,_,_,_,rfl,rfl,sqg,(by rw[qa3];exact Ah3),rfl,_,rfl,?_⟩;by_cases he:(xs.getD f0.toNat []).getD i 0=(xs.getD (fs.getD i 0).toNat []).getD (fs.length-1) 0
     . refine Fx (eqI he) ?_;refine⟨_,rfl,rfl,fun i' hi'=>?_⟩;by_cases z:i'=i
       . subst z;exact he
       . exact hall i' (by omega)
     . refine L7 (neI he) ?_
       have e:meetsB xs fs f0=false:=by
        rw[em,qs8];exact⟨i,qe6.mpr hi,by simpa using he⟩
       rw[e]at k;exact k
   . rintro σ G ⟨o3,rfl,rfl,hall⟩
     have e:meetsB xs fs f0=true:=by
      rw[em,qc8];exact fun i hi=>qd3 (hall i (qe6.mp hi))
     rw[e]at k;exact k
abbrev Kg:Stmt:=Hk 54
def X3:FnScope ["_law_cell","_law_j","_law_many","_law_mixed"] ["_law_cell","_law_j","_law_many"] (Al Kg):=Bl
def iY{f:Addr}{fd:FuncData}(F:Ft K "_law_pick" "_law_pick" Kg f fd)(T:Hi K mg Am Ax A3 A5 A0 Ag Av A2 Ba A6 Ay Aw A4 A9 Az Ae) :B4 P w K mg base Fv 1 f fd ["_law_cell","_law_j","_law_many"] (F1 K):=by
 refine F.ok X3 (fun vs H Q E h=>?_) (fun C7 A outer s H vs Q E hr h=>?_)
 . obtain⟨_,_,_,rfl,_⟩:=h;rfl
 . obtain⟨c,j,m,rfl,hm,k⟩:=h
   refine⟨_,(Af (Aq (i:=3) X3.nd (Bg op_mulX (Bg Dq (Bg B5 (pv 0) Aj) Aj) (Bp (Bx (K:=K)) (Ch (Aa Aj (Aa Aj (Aa Aj (Aa Aj Ad))))) (Bg B5 (pv 1) Aj) (fun _ _=>rfl))))
    (Ak (A8 (Bg B5 (Bg B5 (pv 3) (Bp (Bx (K:=K)) (Ch (Aa Aj (Aa Aj (Aa Aj (Aa Aj Ad))))) (Bg B5 (pv 1) Aj) (fun _ _=>rfl))) (pv 2))))),?_⟩
   have p4:(0:Int)<4:=by decide
   have c0:=qh0 c (show(1000003:Int)≠0 by decide);have c1:=qf2 c (show(0:Int)<1000003 by decide);have j0:=qh0 j (show(4:Int)≠0 by decide);have j1:=qf2 j p4
   have four:∀a b c d:Int,0<a->0<b->0<c->0<d->a<100000->b<100000->c<100000->d<100000->∃x:Int,Pp [V.int a,V.int b,V.int c,V.int d] (j%4)=some (.int x)/\0<x/\x<100000:=fun a b c d a0 b0 c0 d0 a1 b1 c1 d1=>by
    rcases (show j%4=0\/j%4=1\/j%4=2\/j%4=3 by omega) with e | e | e | e<;>rw[e]
    . exact⟨a,rfl,a0,a1⟩
    . exact⟨b,rfl,b0,b1⟩
    . exact⟨c,rfl,c0,c1⟩
    . exact⟨d,rfl,d0,d1⟩
   refine qt6 (fun σ' H'=>∃x:Int,σ'=[iS c,iS j,iS m,iS x]/\Ah H H') (fun key=>?_) ?_
   . refine⟨_,rfl,_,_,rfl,rfl,(by show(0:Int)<1000003;decide),_,_,rfl,rfl,Bk (by simp),fun T1 hT1=>?_⟩;obtain⟨x,hx,x0,x1⟩:=four 48271 69621 16807 39373 (by decide) (by decide) (by decide) (by decide) (by decide) (by decide) (by decide) (by decide);refine⟨_,rfl,_,_,rfl,rfl,p4,T1,_,_,_,rfl,rfl,.of Ab,hx,_,_,rfl,rfl,j7 (by omega) (by omega),?_⟩;exact key _ _ ⟨_,rfl,Ah.new hT1⟩
   rintro _ H1 ⟨x,rfl,s1⟩;refine⟨_,rfl,Bk (by simp),fun T1 hT1=>?_⟩;obtain⟨y,hy,y0,y1⟩:=four 65537 50021 99991 32749 (by decide) (by decide) (by decide) (by decide) (by decide) (by decide) (by decide) (by decide);refine⟨_,rfl,_,_,rfl,rfl,p4,T1,_,_,_,rfl,rfl,.of Ab,hy,_,_,rfl,rfl,y0,_,rfl,_,_,rfl,rfl,hm,?_⟩;exact k _ _ (s1.trans (Ah.new hT1)) (qh0 _ (by omega)) (qf2 _ hm)
abbrev Ee:Stmt:=Hk 57
def Gr:FnScope ["_law_word","_law_family","_law_size","_law_faces","_law_i"] ["_law_word","_law_family"] (Al Ee):=Bl
def Xd{f:Addr}{fd:FuncData}(F:Ft K "_law_faces_by" "_law_faces_by" Ee f fd)(T:Hi K mg Am Ax A3 A5 A0 Ag Av A2 Ba A6 Ay Aw A4 A9 Az Ae) :B4 P w K mg base Fv 1 f fd ["_law_word","_law_family"] (Gn K):=by
 refine F.ok Gr (fun vs H Q E h=>?_) (fun C7 A outer s H vs Q E hr h=>?_)
 . obtain⟨_,_,_,rfl,_⟩:=h;rfl
 . obtain⟨v,w,fam,rfl,hv,hw,k⟩:=h
   refine⟨_,(Af (Aq (i:=2) Gr.nd (As (Ar (K:=K)) T.n_len qe4 (Aa (pv 0) Ad)))
    (Af (Br (Bb C0 (pv 1) Aj (Bh _)) (Af (Br (Bb P6 (pv 2) Aj (Bh _)) (Ak (A8 (Ck Ad))) Bd)
    (Ak (A8 (Du (N':=["_law_i","_law_word"]) (cap:=[none,some 0]) (by rfl) (by kernel_rfl) (B1 (by rfl) T.n_range (Aa (pv 2) Ad)) (fun _ _ _ _=>(A1 (i:=0) uU)) (fun _ _ _ _=>C4) (fun _ _ _ _=>(Bg (M4 (K:=K)) (Fm (Iu (K:=K)) (pv 1) Jl (Gs (pv 0))) (Fm (Iu (K:=K)) (pv 1) (Gs (Bg Dq (pv 0) Aj)) Jl))))))) Bd)
    (Af (Br (Bb C0 (pv 2) Aj (Bh _)) (Ak (A8 (Ck Ad))) Bd)
    (Af (Br (Bb P6 (pv 1) Aj (Bh _)) (Af (Br (Bb C0 (pv 2) Aj (Bh _)) (Ak (A8 (Ck (Aa (Ch Ad) (Aa (Ch Ad) Ad))))) Bd)
    (Ak (A8 (Du (N':=["_law_letter"]) (cap:=[none]) (by rfl) (by kernel_rfl) (N7 (K:=K) (pv 0)) (fun _ _ _ _=>(A1 (i:=0) UU)) (fun _ _ _ _=>C4) (fun _ _ _ _=>(Ch (Aa (pv 0) Ad))))))) Bd)
    (Af (Aq (i:=3) Gr.nd (Ck (Aa (Fm (Iu (K:=K)) (pv 0) (Gs Aj) Jl) Ad)))
    (Af (B3 qc3 rfl (B1 (by rfl) T.n_range (Aa (Bg Mq (pv 2) Aj) Ad)) (A1 (i:=4) Gr.nd) (Ak (Cf (Gd (K:=K) qd5 qe1 qe0 C1 (pv 3) (Aa (Bg (M4 (K:=K)) (Bg (M4 (K:=K)) (Fm (Iu (K:=K)) (pv 0) Jl (Gs (pv 4))) (Ch (Aa (Bg B5 (Bg Dq (Bp (Bx (K:=K)) (pv 0) (pv 4) (fun _ _=>rfl)) (Bp (Bx (K:=K)) (pv 0) (Bg Dq (pv 4) Aj) (fun _ _=>rfl))) (pv 1)) Ad))) (Fm (Iu (K:=K)) (pv 0) (Gs (Bg Dq (pv 4) Aj)) Jl)) Ad)))))
    (Af (Cf (Gd (K:=K) qd5 qe1 qe0 C1 (pv 3) (Aa (Fm (Iu (K:=K)) (pv 0) Jl (Gs (Bg Mq (pv 2) Aj))) Ad)))
    (Ak (A8 (pv 3)))))))))),?_⟩
   obtain⟨aw,rfl,hq⟩:=hv.sq;have hlen:(w.map V.int).length=w.length:=qa3 ..;have hl4:w.length<=4:=by rcases hw with z | z | z<;>omega
   refine⟨_,rfl,aw,_,rfl,.inr hq,?_⟩;rw[hlen];refine⟨_,rfl,rfl,_,rfl,?_⟩;refine ite2 (fun h1=>?_) (fun h1=>?_)
   . have hf:fam=0:=by simpa using h1
     subst hf;refine⟨_,rfl,_,_,rfl,rfl,_,rfl,?_⟩;refine ite2 (fun h2=>?_) (fun h2=>?_)
     . have h3:w.length<2:=by have:(w.length:Int)<2:=by simpa using h2
                              omega
       refine⟨qb6 _,fun p hp=>?_⟩;refine k p [] _ hp (Ah.new hp) Ab ?_;have e:Au w 0=[]:=by unfold Au;rw[if_pos rfl,if_pos h3]
       rw[e];rfl
     . have h3:¬w.length<2:=by have:¬(w.length:Int)<2:=by simpa using h2
                               omega
       have e:Au w 0=(List.range w.length).map fun i=>w.take i++w.drop (i+1):=by unfold Au;rw[if_pos rfl,if_neg h3]
       rw[e]at k;refine⟨_,rfl,_,rfl,by omega,by omega,fun D hD=>?_⟩
       refine Jr (fun i ys τ H1=>i<=w.length/\Ah H H1/\H1 D=some (.lst ys)/\Reps K H1 ys (((List.range i).map fun i=>w.take i++w.drop (i+1)).map tI)/\∃o,τ=[o,rS aw])
        ⟨qb6 _,Ah.new hD,Ab,rfl,none,rfl⟩ ?_ ?_
       . rintro i ys τ H1 hi ⟨hi1,s1,Fu,r1,o,rfl⟩;have hi2:i<w.length:=by simpa using hi
         have hq1:Fw K H1 aw (w.map V.int):=s1.seqT hq;refine⟨_,rfl,_,rfl,_,rfl,aw,_,rfl,hq1,?_,fun p1 H2 s2 q2=>?_⟩
         . rw[hlen];rintro ⟨_,z⟩;rw[show((0:Int)+(i:Int))=((i:Nat):Int) by omega,HT.sIx_nat]at z;omega
         refine⟨_,rfl,_,rfl,_,_,rfl,rfl,_,rfl,aw,_,rfl,s2.seqT hq1,?_,fun p2 H3 s3 q3=>?_⟩
         . rw[hlen];rintro ⟨z,_⟩;rw[show((0:Int)+(i:Int)+1)=((i+1:Nat):Int) by omega,HT.sIx_nat]at z;omega
         rw[show((0:Int)+(i:Int))=((i:Nat):Int) by omega,Nm]at q2;rw[show((0:Int)+(i:Int)+1)=((i+1:Nat):Int) by omega,Vz]at q3;refine⟨p1,p2,_,_,rfl,rfl,s3.seqT q2,q3,?_,fun p H4 s4 q4=>?_⟩
         . refine Bk ?_;simp only[qc4,qn0,qa3];omega
         have X5:Ah H1 H4:=(s2.trans s3).trans s4;have NW:H4 D=some (.lst ys):=X5 _ _ Fu
         have t4:TI K H4 (.ref p) (w.take i++w.drop (i+1)):=by
          refine TI.mk ?_;rw[qb1,qj4,qr7];exact q4
         have r4:Reps K H4 ys (((List.range i).map fun i=>w.take i++w.drop (i+1)).map tI):=Reps.same X5 r1;have hyl:ys.length=i:=by have:=r1.length;simpa using this
         refine⟨NW,Cb (by omega),by omega,(s1.trans X5).turn hD,Ab,?_,_,rfl⟩;rw[qm1,qb1];exact Ew NW r4 t4
       . rintro ys τ H1 ⟨_,s1,Fu,r1,_⟩;rw[show((w.length:Int)).toNat=w.length by omega]at r1;exact k D ys H1 hD s1 Fu r1
   . have hf:¬fam=0:=by simpa using h1
     refine⟨_,rfl,rfl,_,rfl,?_⟩;refine ite2 (fun h2=>?_) (fun h2=>?_)
     . have h3:w.length=0:=by simpa using h2
       refine⟨qb6 _,fun p hp=>?_⟩;refine k p [] _ hp (Ah.new hp) Ab ?_;have e:Au w fam=[]:=by unfold Au;rw[if_neg hf,if_pos h3]
       rw[e];rfl
     have h3:¬w.length=0:=by simpa using h2
     refine⟨_,rfl,_,_,rfl,rfl,_,rfl,?_⟩;refine ite2 (fun h4=>?_) (fun h4=>?_)
     . have h5:fam<0:=by simpa using h4
       refine⟨_,rfl,rfl,_,rfl,?_⟩;refine ite2 (fun h6=>?_) (fun h6=>?_)
       . have h7:w.length=1:=by
          have:(w.length:Int)=1:=by simpa using h6
          omega
         have e:Au w fam=[[],[]]:=by unfold Au;rw[if_neg hf,if_neg h3,if_pos h5,if_pos h7]
         rw[e]at k;refine⟨qb6 _,fun p1 hp1=>⟨qb6 _,fun p2 hp2=>⟨Bk (by simp),fun p hp=>?_⟩⟩⟩;have s1:Ah H (upd H p1 (.tup [])):=Ah.new hp1;have s2:Ah (upd H p1 (.tup [])) (upd (upd H p1 (.tup [])) p2 (.tup [])):=Ah.new hp2;have s3:Ah (upd (upd H p1 (.tup [])) p2 (.tup [])) (upd (upd (upd H p1 (.tup [])) p2 (.tup [])) p (.lst [.ref p1,.ref p2])):=Ah.new hp;have hp0:H p=none:=(s1.trans s2).free hp;refine k p _ _ hp0 ((s1.trans s2).trans s3) Ab ?_;have t1:TI K _ (.ref p1) []:=TI.mk (.of (s3 _ _ (s2 _ _ Ab)));have t2:TI K _ (.ref p2) []:=TI.mk (.of (s3 _ _ Ab));exact⟨_,_,rfl,t1,_,_,rfl,t2,rfl⟩
       . have h7:¬w.length=1:=by
          have:¬(w.length:Int)=1:=by simpa using h6
          omega
         have e:Au w fam=w.map fun l=>[l]:=by unfold Au;rw[if_neg hf,if_neg h3,if_pos h5,if_neg h7]
         rw[e]at k;refine⟨_,rfl,aw,rfl,⟨_,hq⟩,fun D hD=>?_⟩
         refine Oc (xs:=w.map V.int) (fun i ys τ H1=>i<=w.length/\Ah H H1/\H1 D=some (.lst ys)/\Reps K H1 ys (((w.take i).map fun l=>[l]).map tI)/\∃o,τ=[o])
          ⟨qb6 _,Ah.new hD,Ab,rfl,none,rfl⟩ (fun i ys τ H1 _ ⟨_,s1,_⟩=>s1.seqT hq) ?_ ?_
         . rintro i x ys τ H1 hx ⟨hi1,s1,Fu,r1,o,rfl⟩;have hi2:i<w.length:=by have:=(qa2.mp hx).1;simpa using this
           have JU:x=.int w[i]:=by
            rw[qa7,qa0 hi2]at hx;simpa using hx.symm
           subst JU;refine⟨_,rfl,Bk (by simp),fun p hp=>?_⟩;have s2:Ah H1 (upd H1 p (.tup [.int w[i]])):=Ah.new hp;have NW:=s2 _ _ Fu;have t4:TI K (upd H1 p (.tup [.int w[i]])) (.ref p) [w[i]]:=TI.mk (.of Ab);have r4:=Reps.same s2 r1;have hyl:ys.length=i:=by have:=r1.length;simp at this;omega
           refine⟨NW,Cb (by omega),by omega,(s1.trans s2).turn hD,Ab,?_,_,rfl⟩
           have e2:(w.take (i+1)).map (fun l=>[l])=(w.take i).map (fun l=>[l])++[[w[i]]]:=by
            rw[qf1,qa0 hi2,qb1];rfl
           rw[e2];exact Ew NW r4 t4
         . rintro ys τ H1 ⟨_,s1,Fu,r1,_⟩;rw[hlen,qb9]at r1;exact k D ys H1 hD s1 Fu r1
     have h5:¬fam<0:=by simpa using h4
     have hpos:0<fam:=by omega
     have e:Au w fam=w.drop 1::((List.range (w.length-1)).map fun i=>w.take i++[(w.getD i 0+w.getD (i+1) 0)%fam]++w.drop (i+2))++[w.take (w.length-1)]:=by
      unfold Au;rw[if_neg hf,if_neg h3,if_neg h5]
     rw[e]at k;refine⟨_,rfl,_,rfl,aw,_,rfl,hq,?_,fun p1 H1 s1 q1=>⟨Bk (by simp),fun D hD=>?_⟩⟩
     . rw[hlen];rintro ⟨z,_⟩;rw[show(1:Int)=((1:Nat):Int) by omega,HT.sIx_nat]at z;omega
     rw[show(1:Int)=((1:Nat):Int) by omega,Vz]at q1;have bZ:H D=none:=s1.free hD;have s2:Ah H1 (upd H1 D (.lst [.ref p1])):=Ah.new hD
     have t1:TI K (upd H1 D (.lst [.ref p1])) (.ref p1) (w.drop 1):=by
      refine TI.mk ?_;rw[qr7];exact s2.seqT q1
     have hn:((w.length:Int)-1).toNat=w.length-1:=by omega
     refine⟨_,rfl,_,_,rfl,rfl,_,rfl,by omega,by omega,C3 (lo:=0) (n:=((w.length:Int)-1).toNat)
      (fun i σ H2=>∃(ys:List V) (o:Option V),σ=[rS aw,iS fam,some (.int w.length),rS D,o]/\Ah H H2/\H2 D=some (.lst ys) ∧
        Reps K H2 ys ((w.drop 1::((List.range i).map fun i=>w.take i++[(w.getD i 0+w.getD (i+1) 0)%fam]++w.drop (i+2))).map tI))
      ⟨_,none,rfl,s1.trans s2,Ab,⟨_,_,rfl,t1,rfl⟩⟩ ?_ ?_⟩
     . rintro i σ H2 hi ⟨ys,o,rfl,sH,Wz,r2⟩;rw[hn]at hi;have hq2:Fw K H2 aw (w.map V.int):=sH.seqT hq;have c0:((0:Int)+(i:Int))=((i:Nat):Int):=by omega
       have c1:((0:Int)+(i:Int)+1)=((i+1:Nat):Int):=by omega
       have c2:((0:Int)+(i:Int)+2)=((i+2:Nat):Int):=by omega
       have at0:Pp (w.map V.int) ((0:Int)+(i:Int))=some (.int (w.getD i 0)):=by
        rw[c0];refine Dw ?_;rw[qa7,qa0 (by omega)];simp[show i<w.length by omega]
       have at1:Pp (w.map V.int) ((0:Int)+(i:Int)+1)=some (.int (w.getD (i+1) 0)):=by
        rw[c1];refine Dw ?_;rw[qa7,qa0 (by omega)];simp[show i+1<w.length by omega]
       refine⟨_,rfl,.inl ⟨rfl,_,SqL.of Wz⟩,?_⟩;refine⟨_,rfl,_,rfl,_,rfl,aw,_,rfl,hq2,?_,fun pa Ha sa qa=>?_⟩
       . rw[hlen];rintro ⟨_,z⟩;rw[c0,HT.sIx_nat]at z;omega
       rw[c0,Nm]at qa;refine⟨_,rfl,_,rfl,aw,_,_,_,rfl,rfl,sa.seqT hq2,at0,_,rfl,_,rfl,_,_,rfl,rfl,aw,_,_,_,rfl,rfl,sa.seqT hq2,at1,_,_,rfl,rfl,_,rfl,_,_,rfl,rfl,hpos,Bk (by simp),fun pb hb=>?_⟩;have sb:Ah Ha (upd Ha pb (.tup [.int ((w.getD i 0+w.getD (i+1) 0)%fam)])):=Ah.new hb;refine⟨pa,pb,_,_,rfl,rfl,sb.seqT qa,.of Ab,Bk (by simp;omega),fun pc Hc sc qc=>?_⟩;have sac:=(sa.trans sb).trans sc;refine⟨_,rfl,_,rfl,_,_,rfl,rfl,_,rfl,aw,_,rfl,sac.seqT hq2,?_,fun pd Hd sd qd=>?_⟩
       . rw[hlen];rintro ⟨z,_⟩;rw[c2,HT.sIx_nat]at z;omega
       rw[c2,Vz]at qd;refine⟨pc,pd,_,_,rfl,rfl,sd.seqT qc,qd,Bk (by simp;omega),fun pe He se qe=>?_⟩;have LR:=(sac.trans sd).trans se;have hDe:=LR _ _ Wz
       have te:TI K He (.ref pe) (w.take i++[(w.getD i 0+w.getD (i+1) 0)%fam]++w.drop (i+2)):=by
        refine TI.mk ?_;simp only[qb1,qj4,qr7,qc6,qj1];exact qe
       have hyl:ys.length=i+1:=by have:=r2.length;simpa using this
       refine⟨D,_,_,rfl,rfl,hDe,Cb (by omega),?_⟩;refine⟨_,_,rfl,(sH.trans LR).turn bZ,Ab,?_⟩
       have e3:(w.drop 1::((List.range (i+1)).map fun i=>w.take i++[(w.getD i 0+w.getD (i+1) 0)%fam]++w.drop (i+2))) =
        (w.drop 1::((List.range i).map fun i=>w.take i++[(w.getD i 0+w.getD (i+1) 0)%fam]++w.drop (i+2)))++[w.take i++[(w.getD i 0+w.getD (i+1) 0)%fam]++w.drop (i+2)]:=by
        rw[qm1,qb1];rfl
       rw[e3];exact Ew hDe (Reps.same LR r2) te
     . rintro σ H2 ⟨ys,o,rfl,sH,Wz,r2⟩;rw[hn]at r2;have hq2:Fw K H2 aw (w.map V.int):=sH.seqT hq;have c1:((w.length:Int)-1)=((w.length-1:Nat):Int):=by omega
       refine⟨_,rfl,.inl ⟨rfl,_,SqL.of Wz⟩,_,rfl,_,rfl,_,_,rfl,rfl,_,rfl,aw,_,rfl,hq2,?_,fun pa Ha sa qa=>?_⟩
       . rw[hlen];rintro ⟨_,z⟩;rw[c1,HT.sIx_nat]at z;omega
       rw[c1,Nm]at qa;have hDa:=sa _ _ Wz
       have ta:TI K Ha (.ref pa) (w.take (w.length-1)):=by
        refine TI.mk ?_;rw[qj4];exact qa
       have hyl:ys.length=w.length:=by have:=r2.length;simp at this;omega
       refine⟨D,_,_,rfl,rfl,hDa,Cb (by omega),?_⟩;refine⟨_,rfl,?_⟩;exact k D _ _ bZ ((sH.trans sa).turn bZ) Ab (Ew hDa (Reps.same sa r2) ta)
abbrev Fa:Stmt:=Hk 58
def B2:FnScope ["_law_cell","_law_family","_law_letters","_law_size","_law_base","_law_word","_law_k"] ["_law_cell","_law_family","_law_letters"] (Al Fa):=Bl
def d6{f:Addr}{fd:FuncData}(F:Ft K "_law_word_by" "_law_word_by" Fa f fd)(T:Hi K mg Am Ax A3 A5 A0 Ag Av A2 Ba A6 Ay Aw A4 A9 Az Ae) :B4 P w K mg base Fv 1 f fd ["_law_cell","_law_family","_law_letters"] (K5 K):=by
 refine F.ok B2 (fun vs H Q E h=>?_) (fun C7 A outer s H vs Q E hr h=>?_)
 . obtain⟨_,_,_,rfl,_⟩:=h;rfl
 . obtain⟨c,fam,letters,rfl,hl0,hl1,hf,k⟩:=h
   refine⟨_,(Af (Aq (i:=0) B2.nd (Bg B5 (pv 0) Aj))
    (Af (Aq (i:=3) B2.nd (Bg B5 (pv 0) Aj))
    (Af (Aq (i:=4) B2.nd (pv 2))
    (Af (Br (Bb C0 (pv 1) Aj (Bh _)) (Ak (Aq (i:=3) B2.nd (Bg Dq (pv 3) Aj))) Bd)
    (Af (Br (PW.pt (Rg (Bb P6 (pv 1) Aj (Bh _)) (N2 (Bb Yd (pv 3) Aj (Bh _))))) (Ak (Aq (i:=3) B2.nd Aj)) Bd)
    (Af (Br (Bb Um (pv 1) Aj (Bh _)) (Ak (Aq (i:=4) B2.nd (pv 1))) Bd)
    (Af (Aq (i:=0) B2.nd (Bg Ex (pv 0) Aj))
    (Af (Aq (i:=5) B2.nd (Ch Ad))
    (Af (B3 qc3 rfl (B1 (by rfl) T.n_range (Aa (pv 3) Ad)) (A1 (i:=6) B2.nd) (Af (Aq (i:=5) B2.nd (Bg (M4 (K:=K)) (pv 5) (Ch (Aa (Bg B5 (pv 0) (pv 4)) Ad))))
    (Ak (Aq (i:=0) B2.nd (Bg Ex (pv 0) (pv 4))))))
    (Ak (A8 (pv 5)))))))))))),?_⟩
   have m1:0<=c%1000000%4:=qh0 _ (by decide);have m2:c%1000000%4<4:=qf2 _ (by decide);refine⟨_,rfl,_,_,rfl,rfl,(by show(0:Int)<1000000;decide),?_⟩;refine⟨_,rfl,_,_,rfl,rfl,(by show(0:Int)<4;decide),?_⟩;refine⟨_,rfl,?_⟩;have fork:(fam=0)\/(fam<0/\c%1000000%4=1)\/(fam<0/\¬c%1000000%4=1)\/0<fam:=by omega
   have mY:¬fam=0->¬(decide (V.int fam=V.int 0)=true):=fun z q=>z (by simpa using q);have XX:fam=0->decide (V.int fam=V.int 0)=true:=fun z=>by simp[z]
   have hb0:0<letters:=hl0;have hb1:letters<1073741824:=by omega
   rcases fork with hz|⟨hz,h1⟩|⟨hz,h1⟩ | hz
   . refine⟨_,rfl,rfl,_,rfl,?_⟩;refine L7 (XX hz) ?_;refine⟨_,rfl,_,_,rfl,rfl,?_⟩;refine⟨_,rfl,_,_,rfl,rfl,_,rfl,?_⟩;refine Fx (by simp;omega) ?_;refine Fx (by simp) ?_;refine⟨_,rfl,_,_,rfl,rfl,_,rfl,?_⟩;refine Fx (by simp;omega) ?_;have hW:∀w:List Int,w.length=(c%1000000%4+1).toNat->D0 fam w:=fun w e=>.inl ⟨hz,by omega,by omega⟩;refine⟨_,rfl,_,_,rfl,rfl,⟨by decide,by decide⟩,qb6 _,fun p0 hp0=>?_⟩;refine⟨_,rfl,_,rfl,by omega,by omega,?_⟩
     refine C3 (lo:=0) (n:=(c%1000000%4+1:Int).toNat)
      (fun i σ H2=>∃(c':Int) (v:V) (o:Option V) (w:List Int),σ=[iS c',iS fam,iS letters,some (.int (c%1000000%4+1)),iS letters,some v,o]/\Ah H H2/\TI K H2 v w/\w.length=i)
      ⟨_,_,none,[],rfl,Ah.new hp0,TI.mk (.of Ab),rfl⟩ ?_ ?_
     . rintro i σ H2 hi ⟨c',v,o,w,rfl,s2,tv,hwl⟩;obtain⟨a,rfl,VG⟩:=tv.sq;refine⟨_,rfl,_,rfl,_,rfl,_,_,rfl,rfl,hb0,Bk (by simp),fun pt RD=>?_⟩;have s3:Ah H2 (upd H2 pt (.tup [.int (c'%letters)])):=Ah.new RD;refine⟨a,pt,_,_,rfl,rfl,s3.seqT VG,.of Ab,Bk (by simp;omega),fun p3 H3 s4 q3=>?_⟩;refine⟨_,rfl,_,rfl,_,_,rfl,rfl,⟨hb0,hb1⟩,?_⟩;refine⟨_,_,_,w++[c'%letters],rfl,(s2.trans s3).trans s4,TI.mk ?_,by simp[hwl]⟩;rw[qb1];exact q3
     . rintro σ H2 ⟨c',v,o,w,rfl,s2,tv,hwl⟩;exact⟨_,rfl,k v H2 w s2 tv (hW w hwl)⟩
   . refine⟨_,rfl,rfl,_,rfl,?_⟩;refine Fx (mY (by omega)) ?_;refine⟨_,rfl,_,_,rfl,rfl,_,rfl,?_⟩;refine L7 (by simp;omega) ?_;refine⟨_,rfl,rfl,_,rfl,?_⟩;refine Fx (eqI h1) ?_;refine⟨_,rfl,_,_,rfl,rfl,_,rfl,?_⟩;refine Fx (by simp;omega) ?_;have hW:∀w:List Int,w.length=(c%1000000%4).toNat->D0 fam w:=fun w e=>.inr (.inl ⟨hz,by omega⟩);refine⟨_,rfl,_,_,rfl,rfl,⟨by decide,by decide⟩,qb6 _,fun p0 hp0=>?_⟩;refine⟨_,rfl,_,rfl,by omega,by omega,?_⟩
     refine C3 (lo:=0) (n:=(c%1000000%4:Int).toNat)
      (fun i σ H2=>∃(c':Int) (v:V) (o:Option V) (w:List Int),σ=[iS c',iS fam,iS letters,some (.int (c%1000000%4)),iS letters,some v,o]/\Ah H H2/\TI K H2 v w/\w.length=i)
      ⟨_,_,none,[],rfl,Ah.new hp0,TI.mk (.of Ab),rfl⟩ ?_ ?_
     . rintro i σ H2 hi ⟨c',v,o,w,rfl,s2,tv,hwl⟩;obtain⟨a,rfl,VG⟩:=tv.sq;refine⟨_,rfl,_,rfl,_,rfl,_,_,rfl,rfl,hb0,Bk (by simp),fun pt RD=>?_⟩;have s3:Ah H2 (upd H2 pt (.tup [.int (c'%letters)])):=Ah.new RD;refine⟨a,pt,_,_,rfl,rfl,s3.seqT VG,.of Ab,Bk (by simp;omega),fun p3 H3 s4 q3=>?_⟩;refine⟨_,rfl,_,rfl,_,_,rfl,rfl,⟨hb0,hb1⟩,?_⟩;refine⟨_,_,_,w++[c'%letters],rfl,(s2.trans s3).trans s4,TI.mk ?_,by simp[hwl]⟩;rw[qb1];exact q3
     . rintro σ H2 ⟨c',v,o,w,rfl,s2,tv,hwl⟩;exact⟨_,rfl,k v H2 w s2 tv (hW w hwl)⟩
   . refine⟨_,rfl,rfl,_,rfl,?_⟩;refine Fx (mY (by omega)) ?_;refine⟨_,rfl,_,_,rfl,rfl,_,rfl,?_⟩;refine L7 (by simp;omega) ?_;refine⟨_,rfl,rfl,_,rfl,?_⟩;refine L7 (neI h1) ?_;refine⟨_,rfl,_,_,rfl,rfl,_,rfl,?_⟩;refine Fx (by simp;omega) ?_;have hW:∀w:List Int,w.length=(3:Int).toNat->D0 fam w:=fun w e=>.inr (.inl ⟨hz,.inr (.inr e)⟩);refine⟨_,rfl,_,_,rfl,rfl,⟨by decide,by decide⟩,qb6 _,fun p0 hp0=>?_⟩;refine⟨_,rfl,_,rfl,by omega,by omega,?_⟩
     refine C3 (lo:=0) (n:=(3:Int).toNat)
      (fun i σ H2=>∃(c':Int) (v:V) (o:Option V) (w:List Int),σ=[iS c',iS fam,iS letters,some (.int (3)),iS letters,some v,o]/\Ah H H2/\TI K H2 v w/\w.length=i)
      ⟨_,_,none,[],rfl,Ah.new hp0,TI.mk (.of Ab),rfl⟩ ?_ ?_
     . rintro i σ H2 hi ⟨c',v,o,w,rfl,s2,tv,hwl⟩;obtain⟨a,rfl,VG⟩:=tv.sq;refine⟨_,rfl,_,rfl,_,rfl,_,_,rfl,rfl,hb0,Bk (by simp),fun pt RD=>?_⟩;have s3:Ah H2 (upd H2 pt (.tup [.int (c'%letters)])):=Ah.new RD;refine⟨a,pt,_,_,rfl,rfl,s3.seqT VG,.of Ab,Bk (by simp;omega),fun p3 H3 s4 q3=>?_⟩;refine⟨_,rfl,_,rfl,_,_,rfl,rfl,⟨hb0,hb1⟩,?_⟩;refine⟨_,_,_,w++[c'%letters],rfl,(s2.trans s3).trans s4,TI.mk ?_,by simp[hwl]⟩;rw[qb1];exact q3
     . rintro σ H2 ⟨c',v,o,w,rfl,s2,tv,hwl⟩;exact⟨_,rfl,k v H2 w s2 tv (hW w hwl)⟩
   . refine⟨_,rfl,rfl,_,rfl,?_⟩;refine Fx (mY (by omega)) ?_;refine⟨_,rfl,_,_,rfl,rfl,_,rfl,?_⟩;refine Fx (by simp;omega) ?_;refine Fx (by simp) ?_;refine⟨_,rfl,_,_,rfl,rfl,_,rfl,?_⟩;refine L7 (by simp;omega) ?_;refine⟨_,rfl,?_⟩;have hW:∀w:List Int,w.length=(c%1000000%4).toNat->D0 fam w:=fun w e=>.inr (.inr ⟨hz,by omega⟩);have hb0:0<fam:=hz;have hb1:fam<1073741824:=by omega
     refine⟨_,rfl,_,_,rfl,rfl,⟨by decide,by decide⟩,qb6 _,fun p0 hp0=>?_⟩;refine⟨_,rfl,_,rfl,by omega,by omega,?_⟩
     refine C3 (lo:=0) (n:=(c%1000000%4:Int).toNat)
      (fun i σ H2=>∃(c':Int) (v:V) (o:Option V) (w:List Int),σ=[iS c',iS fam,iS letters,some (.int (c%1000000%4)),iS fam,some v,o]/\Ah H H2/\TI K H2 v w/\w.length=i)
      ⟨_,_,none,[],rfl,Ah.new hp0,TI.mk (.of Ab),rfl⟩ ?_ ?_
     . rintro i σ H2 hi ⟨c',v,o,w,rfl,s2,tv,hwl⟩;obtain⟨a,rfl,VG⟩:=tv.sq;refine⟨_,rfl,_,rfl,_,rfl,_,_,rfl,rfl,hb0,Bk (by simp),fun pt RD=>?_⟩;have s3:Ah H2 (upd H2 pt (.tup [.int (c'%fam)])):=Ah.new RD;refine⟨a,pt,_,_,rfl,rfl,s3.seqT VG,.of Ab,Bk (by simp;omega),fun p3 H3 s4 q3=>?_⟩;refine⟨_,rfl,_,rfl,_,_,rfl,rfl,⟨hb0,hb1⟩,?_⟩;refine⟨_,_,_,w++[c'%fam],rfl,(s2.trans s3).trans s4,TI.mk ?_,by simp[hwl]⟩;rw[qb1];exact q3
     . rintro σ H2 ⟨c',v,o,w,rfl,s2,tv,hwl⟩;exact⟨_,rfl,k v H2 w s2 tv (hW w hwl)⟩
abbrev Ib:Stmt:=Hk 62
def Io:FnScope ["_law_e","_law_marks_here"] ["_law_e"] (Al Ib):=Bl
def EJ{f:Addr}{fd:FuncData}(F:Ft K "_law_marks" "_law_marks" Ib f fd)(T:Hi K mg Am Ax A3 A5 A0 Ag Av A2 Ba A6 Ay Aw A4 A9 Az Ae) :PJ P w K mg base 1 f fd ["_law_e"] (Qz K Ax A3 A5 A0 Ag Av A2 Ba A6 Ay Aw A4 A9 Az Ae):=by
 refine F.okN Io (fun vs H Q E h=>?_) (fun C7 A outer s H vs Q E hr h=>?_)
 . obtain⟨_,_,_,_,rfl,_⟩:=h;rfl
 . obtain⟨e,C,o,n,rfl,he,hm,k⟩:=h
   refine⟨_,(Af (Aq (i:=1) Io.nd (Ck (Aa (As (By (K:=K)) T.n_isinstance A7 (Aa (pv 0) (Aa (Fo (v:=.ty "ValueError") rfl T.n_ValueError Si rfl) Ad))) (Aa (As (By (K:=K)) T.n_isinstance A7 (Aa (pv 0) (Aa (C8 (v:=.ref Ax) (by rfl) T.m_NoShape rfl) Ad))) (Aa (As (By (K:=K)) T.n_isinstance A7 (Aa (pv 0) (Aa (C8 (v:=.ref A3) (by rfl) T.m_NoText rfl) Ad))) (Aa (As (By (K:=K)) T.n_isinstance A7 (Aa (pv 0) (Aa (C8 (v:=.ref A5) (by rfl) T.m_NoName rfl) Ad))) Ad))))))
    (Af (Aq (i:=1) Io.nd (Bg (Kk (K:=K)) (pv 1) (Ck (Aa (As (By (K:=K)) T.n_isinstance A7 (Aa (pv 0) (Aa (C8 (v:=.ref A0) (by rfl) T.m_NoLevel rfl) Ad))) (Aa (As (By (K:=K)) T.n_isinstance A7 (Aa (pv 0) (Aa (C8 (v:=.ref Ag) (by rfl) T.m_NoChain rfl) Ad))) (Aa (As (By (K:=K)) T.n_isinstance A7 (Aa (pv 0) (Aa (C8 (v:=.ref Av) (by rfl) T.m_NoTable rfl) Ad))) Ad))))))
    (Af (Aq (i:=1) Io.nd (Bg (Kk (K:=K)) (pv 1) (Ck (Aa (As (By (K:=K)) T.n_isinstance A7 (Aa (pv 0) (Aa (C8 (v:=.ref A2) (by rfl) T.m_NoTurn rfl) Ad))) (Aa (As (By (K:=K)) T.n_isinstance A7 (Aa (pv 0) (Aa (C8 (v:=.ref Ba) (by rfl) T.m_NoMap rfl) Ad))) (Aa (As (By (K:=K)) T.n_isinstance A7 (Aa (pv 0) (Aa (C8 (v:=.ref A6) (by rfl) T.m_NoGlue rfl) Ad))) (Aa (As (By (K:=K)) T.n_isinstance A7 (Aa (pv 0) (Aa (C8 (v:=.ref Ay) (by rfl) T.m_NoPrime rfl) Ad))) Ad)))))))
    (Af (Aq (i:=1) Io.nd (Bg (Kk (K:=K)) (pv 1) (Ck (Aa (As (By (K:=K)) T.n_isinstance A7 (Aa (pv 0) (Aa (C8 (v:=.ref Aw) (by rfl) T.m_NoStage rfl) Ad))) (Aa (As (By (K:=K)) T.n_isinstance A7 (Aa (pv 0) (Aa (C8 (v:=.ref A4) (by rfl) T.m_NoPair rfl) Ad))) (Aa (As (By (K:=K)) T.n_isinstance A7 (Aa (pv 0) (Aa (C8 (v:=.ref A9) (by rfl) T.m_NoRow rfl) Ad))) Ad))))))
    (Ak (A8 (Bg (Kk (K:=K)) (pv 1) (Ck (Aa (As (By (K:=K)) T.n_isinstance A7 (Aa (pv 0) (Aa (C8 (v:=.ref Az) (by rfl) T.m_NoPiece rfl) Ad))) (Aa (As (By (K:=K)) T.n_isinstance A7 (Aa (pv 0) (Aa (C8 (v:=.ref Ae) (by rfl) T.m_NoRound rfl) Ad))) Ad)))))))))),?_⟩
   refine qt6 (fun σ' H'=>∃M:Addr,σ'=[rS e,rS M]/\Ah H H'/\H' M=some (.lst [.bl true,.bl (decide (1=n)),.bl (decide (2=n)),.bl (decide (3=n))])) (fun key=>?_) ?_
   . exact⟨_,rfl,e,C,o,_,_,_,rfl,rfl,pQ,he,hm.x,hm.v,_,rfl,e,C,o,_,_,_,rfl,rfl,Cu,he,hm.x,hm.i 0 _ rfl,_,rfl,e,C,o,_,_,_,rfl,rfl,Cu,he,hm.x,hm.i 1 _ rfl,_,rfl,e,C,o,_,_,_,rfl,rfl,Cu,he,hm.x,hm.i 2 _ rfl,Bk (by simp),fun M hM=>key _ _ ⟨M,rfl,Ah.new hM,Ab⟩⟩
   rintro _ H0 ⟨M0,rfl,s0,hM0⟩;refine qt6 (fun σ' H'=>∃M:Addr,σ'=[rS e,rS M]/\Ah H H'/\H' M=some (.lst [.bl true,.bl (decide (1=n)),.bl (decide (2=n)),.bl (decide (3=n)),.bl (decide (4=n)),.bl (decide (5=n)),.bl (decide (6=n))])) (fun key=>?_) ?_
   . refine⟨_,rfl,_,rfl,e,C,o,_,_,_,rfl,rfl,Cu,(s0 _ _ he),hm.x,hm.i 3 _ rfl,_,rfl,e,C,o,_,_,_,rfl,rfl,Cu,(s0 _ _ he),hm.x,hm.i 4 _ rfl,_,rfl,e,C,o,_,_,_,rfl,rfl,Cu,(s0 _ _ he),hm.x,hm.i 5 _ rfl,Bk (by simp),fun N hN=>?_⟩;have dY:Ah H0 (upd H0 N (.lst [.bl (decide (4=n)),.bl (decide (5=n)),.bl (decide (6=n))])):=Ah.new hN;have OF:upd H0 N (.lst [.bl (decide (4=n)),.bl (decide (5=n)),.bl (decide (6=n))]) N=some (.lst [.bl (decide (4=n)),.bl (decide (5=n)),.bl (decide (6=n))]):=Ab;generalize upd H0 N (.lst [.bl (decide (4=n)),.bl (decide (5=n)),.bl (decide (6=n))])=G1 at dY OF ⊢;exact⟨M0,N,_,_,rfl,rfl,.of (dY _ _ hM0),.of OF,Bk (by simp),fun M hM=>key _ _ ⟨M,rfl,(s0.trans dY).trans (Ah.new hM),Ab⟩⟩
   rintro _ H1 ⟨M1,rfl,s1,aJ⟩;refine qt6 (fun σ' H'=>∃M:Addr,σ'=[rS e,rS M]/\Ah H H'/\H' M=some (.lst [.bl true,.bl (decide (1=n)),.bl (decide (2=n)),.bl (decide (3=n)),.bl (decide (4=n)),.bl (decide (5=n)),.bl (decide (6=n)),.bl (decide (7=n)),.bl (decide (8=n)),.bl (decide (9=n)),.bl (decide (10=n))])) (fun key=>?_) ?_
   . refine⟨_,rfl,_,rfl,e,C,o,_,_,_,rfl,rfl,Cu,(s1 _ _ he),hm.x,hm.i 6 _ rfl,_,rfl,e,C,o,_,_,_,rfl,rfl,Cu,(s1 _ _ he),hm.x,hm.i 7 _ rfl,_,rfl,e,C,o,_,_,_,rfl,rfl,Cu,(s1 _ _ he),hm.x,hm.i 8 _ rfl,_,rfl,e,C,o,_,_,_,rfl,rfl,Cu,(s1 _ _ he),hm.x,hm.i 9 _ rfl,Bk (by simp),fun N hN=>?_⟩;have dY:Ah H1 (upd H1 N (.lst [.bl (decide (7=n)),.bl (decide (8=n)),.bl (decide (9=n)),.bl (decide (10=n))])):=Ah.new hN;have OF:upd H1 N (.lst [.bl (decide (7=n)),.bl (decide (8=n)),.bl (decide (9=n)),.bl (decide (10=n))]) N=some (.lst [.bl (decide (7=n)),.bl (decide (8=n)),.bl (decide (9=n)),.bl (decide (10=n))]):=Ab;generalize upd H1 N (.lst [.bl (decide (7=n)),.bl (decide (8=n)),.bl (decide (9=n)),.bl (decide (10=n))])=G1 at dY OF ⊢;exact⟨M1,N,_,_,rfl,rfl,.of (dY _ _ aJ),.of OF,Bk (by simp),fun M hM=>key _ _ ⟨M,rfl,(s1.trans dY).trans (Ah.new hM),Ab⟩⟩
   rintro _ H2 ⟨M2,rfl,s2,VP⟩;refine qt6 (fun σ' H'=>∃M:Addr,σ'=[rS e,rS M]/\Ah H H'/\H' M=some (.lst [.bl true,.bl (decide (1=n)),.bl (decide (2=n)),.bl (decide (3=n)),.bl (decide (4=n)),.bl (decide (5=n)),.bl (decide (6=n)),.bl (decide (7=n)),.bl (decide (8=n)),.bl (decide (9=n)),.bl (decide (10=n)),.bl (decide (11=n)),.bl (decide (12=n)),.bl (decide (13=n))])) (fun key=>?_) ?_
   . refine⟨_,rfl,_,rfl,e,C,o,_,_,_,rfl,rfl,Cu,(s2 _ _ he),hm.x,hm.i 10 _ rfl,_,rfl,e,C,o,_,_,_,rfl,rfl,Cu,(s2 _ _ he),hm.x,hm.i 11 _ rfl,_,rfl,e,C,o,_,_,_,rfl,rfl,Cu,(s2 _ _ he),hm.x,hm.i 12 _ rfl,Bk (by simp),fun N hN=>?_⟩;have dY:Ah H2 (upd H2 N (.lst [.bl (decide (11=n)),.bl (decide (12=n)),.bl (decide (13=n))])):=Ah.new hN;have OF:upd H2 N (.lst [.bl (decide (11=n)),.bl (decide (12=n)),.bl (decide (13=n))]) N=some (.lst [.bl (decide (11=n)),.bl (decide (12=n)),.bl (decide (13=n))]):=Ab;generalize upd H2 N (.lst [.bl (decide (11=n)),.bl (decide (12=n)),.bl (decide (13=n))])=G1 at dY OF ⊢;exact⟨M2,N,_,_,rfl,rfl,.of (dY _ _ VP),.of OF,Bk (by simp),fun M hM=>key _ _ ⟨M,rfl,(s2.trans dY).trans (Ah.new hM),Ab⟩⟩
   rintro _ H3 ⟨M3,rfl,s3,rH⟩;refine⟨_,rfl,_,rfl,e,C,o,_,_,_,rfl,rfl,Cu,(s3 _ _ he),hm.x,hm.i 13 _ rfl,_,rfl,e,C,o,_,_,_,rfl,rfl,Cu,(s3 _ _ he),hm.x,hm.i 14 _ rfl,Bk (by simp),fun N hN=>?_⟩;have dY:Ah H3 (upd H3 N (.lst [.bl (decide (14=n)),.bl (decide (15=n))])):=Ah.new hN;have OF:upd H3 N (.lst [.bl (decide (14=n)),.bl (decide (15=n))]) N=some (.lst [.bl (decide (14=n)),.bl (decide (15=n))]):=Ab;generalize upd H3 N (.lst [.bl (decide (14=n)),.bl (decide (15=n))])=G1 at dY OF ⊢;exact⟨M3,N,_,_,rfl,rfl,.of (dY _ _ rH),.of OF,Bk (by simp),fun M hM=>k M _ ((s3.trans dY).trans (Ah.new hM)) Ab⟩
abbrev Kh:Stmt:=Hk 63
def iK:FnScope ["_law_at"] ["_law_at"] (Al Kh):=Bl
def IY{f:Addr}{fd:FuncData}(F:Ft K "_law_only" "_law_only" Kh f fd)(T:Hi K mg Am Ax A3 A5 A0 Ag Av A2 Ba A6 Ay Aw A4 A9 Az Ae) :B4 P w K mg base Fv 1 f fd ["_law_at"] (Q4 K):=by
 refine F.ok iK (fun vs H Q E h=>?_) (fun C7 A outer s H vs Q E hr h=>?_)
 . obtain⟨_,rfl,_⟩:=h;rfl
 . obtain⟨n,rfl,k⟩:=h;have Gv:=hr.u8;refine⟨_,(Ak (A8 (Du (N':=["_law_k","_law_at"]) (cap:=[none,some 0]) (by rfl) (by kernel_rfl) (B1 (by rfl) T.n_range (Aa Aj Ad)) (fun _ _ _ _=>(A1 (i:=0) US)) (fun _ _ _ _=>C4) (fun _ _ _ _=>(Fn (GS (K:=K) Gv) (pv 0) (Ch (Aa Aj (Aa (pv 1) Ad))) rfl))))),?_⟩;refine⟨_,rfl,by decide,by decide,fun D hD=>?_⟩;refine Jr (n:=16) (fun j ys τ H1=>Ah H H1/\H1 D=some (.lst ys)/\j<=16/\ys=((List.range j).map fun(k:Nat)=>(B7 [0,n]).any fun e=>eqD e (.int (k:Int))).map V.bl/\∃o,τ=[o,iS n]) ⟨Ah.new hD,Ab,qb6 _,rfl,none,rfl⟩ ?_ ?_
   . rintro j ys τ H1 hj ⟨s1,Fu,A28,hys,o,rfl⟩;refine⟨_,rfl,_,rfl,Bk (by simp),fun T1 hT1=>?_⟩;have sT:Ah H1 (upd H1 T1 (.tup [.int 0,.int n])):=Ah.new hT1;refine⟨.int (0+(j:Int)),B7 [0,n],rfl,.inr ⟨T1,_,rfl,.of Ab,Gc.mpr rfl⟩,(by rw[Gi];decide),?_⟩;rw[if_neg (by simp)];refine⟨sT _ _ Fu,Cb (by rw[hys,qa3,qa3,List.length_range];omega),(s1.trans sT).turn hD,Ab,by omega,?_,_,rfl⟩;rw[hys,qm1,qb1,qb1,Int.zero_add];rfl
   . rintro ys τ H1 ⟨s1,Fu,_,hys,_⟩;rw[hys]at Fu;exact k D H1 s1 Fu
abbrev Fb:Stmt:=Hk 64
def Hn:FnScope ["_law_chain","_law_kept","_law_place","_law_number_here"] ["_law_chain"] (Al Fb):=Bl
def d7{f:Addr}{fd:FuncData}(F:Ft K "_law_trimmed" "_law_trimmed" Fb f fd)(T:Hi K mg Am Ax A3 A5 A0 Ag Av A2 Ba A6 Ay Aw A4 A9 Az Ae) :B4 P w K mg base Fv 1 f fd ["_law_chain"] (Mf K):=by
 refine F.ok Hn (fun vs H Q E h=>?_) (fun C7 A outer s H vs Q E hr h=>?_)
 . obtain⟨_,_,rfl,_⟩:=h;rfl
 . obtain⟨a,ms,rfl,ha,hm,k⟩:=h;have Gv:=hr.u8
   refine⟨_,(Af (Aq (i:=1) Hn.nd Er)
    (Af (Le (B3 qc3 rfl (Fl (pv 0)) (Dj (K:=K) (n:=2) (by rfl) (Bq (A1 (i:=2) Hn.nd) (Bq (A1 (i:=3) Hn.nd) Di))) (Ak (Br (Bb Yd (pv 3) Aj (Bh _)) (Ak (N4 (u1 Gv) (pv 1) (pv 2) (pv 3) (by rfl))) Bd))))
    (Ak (A8 (pv 1))))),?_⟩
   intro D hD;have ZF:a≠D:=Ap ha hD;refine .inr ⟨a,cK ms,(by rw[Ai ZF];exact ha),fun hnd o=>?_⟩;have Af6:nd ms:=Mt.mp hnd;refine⟨_,rfl,a,o,cK ms,rfl,Ab,?_⟩
   refine Ei (d:=a) (o:=o) (kvs:=cK ms) (fun i σ H1=>∃o1 o2,σ=[rS a,rS D,o1,o2]/\H1 a=some (.frz o (.dK (cK ms)))/\H1 D=some (.dK (cK (E3 (ms.take i))))/\(∀c q,c≠a->c≠D->H c=some q->H1 c=some q))
    ⟨none,none,rfl,Ab,?_,fun c q n1 n2 e=>by rw[Ai n1,Ai n2];exact e⟩ (fun i σ H1 _ ⟨_,_,_,e,_⟩=>e) ?_ ?_
   . rw[Ai ZF.symm,Ab];rfl
   . rintro i kk x σ G p hx ⟨o1,o2,rfl,ha0,bZ,hk0⟩ hp;obtain⟨q,hq,rfl,rfl⟩:=Ly hx;have hlt:i<ms.length:=(qa2.mp hq).1;have Pt:Ah G (upd G p (.tup [.int q.1,.int q.2])):=Ah.new hp;refine⟨p,_,rfl,.of Ab,rfl,_,_,rfl,_,_,rfl,rfl,?_⟩;have ha1:=Pt _ _ ha0;have Fu:=Pt _ _ bZ;have hk1:∀c r,c≠a->c≠D->H c=some r->(upd G p (.tup [.int q.1,.int q.2])) c=some r:=fun c r n1 n2 e=>Pt _ _ (hk0 c r n1 n2 e);refine⟨_,rfl,rfl,_,rfl,?_⟩;have ct:=KI hq;refine ite2 (fun h1=>?_) (fun h1=>?_)
     . have e:¬q.2=0:=by simpa using h1
       rw[if_neg e]at ct;have ln:(E3 (ms.take i)).length<=1000000:=by have:=N6 (ms.take i);rw[qc4]at this;omega
       refine⟨_,rfl,_,rfl,_,rfl,D,_,rfl,N8 Fu ln,?_⟩;refine⟨_,_,rfl,?_,?_,fun c r n1 n2 e2=>?_⟩
       . rw[Ai ZF];exact ha1
       . rw[Ab,put_new (rN (Pr Af6 hq)),ct]
       . rw[Ai n2];exact hk1 c r n1 n2 e2
     . have e:q.2=0:=by simpa using h1
       rw[if_pos e]at ct;exact⟨_,_,rfl,ha1,by rw[ct];exact Fu,hk1⟩
   . rintro σ H1 ⟨o1,o2,rfl,ha1,Fu,hk1⟩;rw[Hg,qb9]at Fu;refine⟨ha1,_,rfl,k D _ hD (fun c q e2=>?_) (by rw[Ai ZF.symm];exact Fu)⟩;by_cases z:c=a
     . subst z;rw[ha]at e2;cases e2;exact Ab
     . rw[Ai z];exact hk1 c q z (Ap e2 hD) e2
abbrev Ga:Stmt:=Hk 67
def Mm:FnScope ["_law_cell","_law_number_here"] ["_law_cell"] (Al Ga):=Bl
def bF{f:Addr}{fd:FuncData}(F:Ft K "_law_number" "_law_number" Ga f fd)(T:Hi K mg Am Ax A3 A5 A0 Ag Av A2 Ba A6 Ay Aw A4 A9 Az Ae) :B4 P w K mg base Fv 1 f fd ["_law_cell"] (K0 K):=by
 refine F.ok Mm (fun vs H Q E h=>?_) (fun C7 A outer s H vs Q E hr h=>?_)
 . obtain⟨_,rfl,_⟩:=h;rfl
 . obtain⟨c,rfl,k⟩:=h
   refine⟨_,(Af (Aq (i:=1) Mm.nd (Bg Mq (Bg B5 (pv 0) Aj) Aj))
    (Af (Br (Bb C0 (Bg B5 (Bg Ex (pv 0) Aj) Aj) Aj (Bh _)) (Ak (Aq (i:=1) Mm.nd (Bg Mq (Bg B5 (pv 0) (Bg MK Aj Aj)) (Bg MK Aj Aj)))) Bd)
    (Af (Br (Bb C0 (pv 1) Aj (Bh _)) (Ak (A8 Aj)) Bd)
    (Ak (A8 (pv 1)))))),?_⟩
   refine qt6 (fun σ' H'=>∃n:Int,σ'=[iS c,iS n]/\H=H'/\n.natAbs<=10 ^ 20) (fun key=>?_) ?_
   . refine⟨_,rfl,_,_,rfl,rfl,(by decide:(0:Int)<7),_,_,rfl,rfl,key _ _ ⟨_,rfl,rfl,?_⟩⟩;have m0:=qh0 c (b:=7) (by decide);have m1:=qf2 c (b:=7) (by decide);omega
   rintro _ _ ⟨n,rfl,rfl,hn⟩;refine qt6 (fun σ' H'=>∃n:Int,σ'=[iS c,iS n]/\H=H'/\n.natAbs<=10 ^ 20) (fun key=>?_) ?_
   . refine⟨_,rfl,_,_,rfl,rfl,⟨by decide,by decide⟩,_,_,rfl,rfl,(by decide:(0:Int)<4),rfl,_,rfl,?_⟩;refine ite2 (fun _=>?_) (fun _=>key _ _ ⟨n,rfl,rfl,hn⟩);refine⟨_,rfl,_,_,rfl,rfl,⟨by decide,by decide,by decide⟩,_,_,rfl,rfl,(by show(0:Int)<(10:Int) ^ 20;decide),_,_,rfl,rfl,⟨by decide,by decide,by decide⟩,_,_,rfl,rfl,key _ _ ⟨_,rfl,rfl,?_⟩⟩;have m0:=qh0 c (b:=(10:Int) ^ 20) (by decide);have m1:=qf2 c (b:=(10:Int) ^ 20) (by decide);show(c%(10:Int) ^ 20-(10:Int) ^ 19).natAbs<=10 ^ 20;omega
   clear hn n;rintro _ _ ⟨n,rfl,rfl,hn⟩;refine⟨_,rfl,rfl,_,rfl,?_⟩;refine ite2 (fun _=>?_) (fun h0=>?_)
   . exact k 1 (by decide) (by decide)
   . exact⟨_,rfl,k n (fun z=>h0 (by rw[z];rfl)) hn⟩
abbrev Cs:Stmt:=Hk 2
def Pw:FnScope ["thing","bound"] ["thing","bound"] (Al Cs):=Bl
def P7{f:Addr}{fd:FuncData}(F:Ft K "is_whole_below" "is_whole_below" Cs f fd)(T:Hi K mg Am Ax A3 A5 A0 Ag Av A2 Ba A6 Ay Aw A4 A9 Az Ae)(Eh:Has P w K mg base "is_whole" ["thing"] 1 (E6 K)):B4 P w K mg base Fv 2 f fd ["thing","bound"] (Fk K):=by
 refine F.ok Pw (fun vs H Q E h=>?_) (fun C7 A outer s H vs Q E hr h=>?_)
 . obtain⟨_,_,_,rfl,_⟩:=h;rfl
 . obtain⟨x,d,b,rfl,hx,k⟩:=h;refine⟨_,(Ak (A8 (Lf (Ao Eh hr (Aa (pv 0) Ad)) (Mo (mJ sF P6 Aj (pv 0) (pv 1)))))),?_⟩;refine⟨_,rfl,x,d,rfl,hx,_,rfl,?_⟩;refine ite2 (fun e=>?_) (fun e=>?_)
   . obtain⟨i,rfl⟩:=T5 e;cases (show x=.int i from hx);refine⟨_,rfl,_,_,rfl,rfl,_,rfl,?_⟩;refine ite2 (fun e1=>?_) (fun e1=>?_)
     . refine⟨_,rfl,_,_,rfl,rfl,?_⟩;have e2:Wj (.int i) b=decide (i<b):=by show(decide (0<=i)&&decide (i<b))=_;rw[e1];rfl
       rw[e2]at k;exact k
     . have e2:Wj (.int i) b=false:=by show(decide (0<=i)&&decide (i<b))=_;simp at e1;simp;omega
       rw[e2]at k;exact k
   . have e2:Wj d b=false:=by
      cases d<;>first | rfl | (exfalso;exact e rfl)
     rw[e2]at k;exact k
abbrev Ra:Stmt:=Hk 11
def Tq:FnScope ["one","other","told","place","number"] ["one","other"] (Al Ra):=Bl
def qL{f:Addr}{fd:FuncData}(F:Ft K "plus" "plus" Ra f fd)(T:Hi K mg Am Ax A3 A5 A0 Ag Av A2 Ba A6 Ay Aw A4 A9 Az Ae)(Ht:Has P w K mg base "add_at" ["chain","place","number"] 1 (Hu K)):B4 P w K mg base Fv 2 f fd ["one","other"] (Zs K):=by
 refine F.ok Tq (fun vs H Q E h=>?_) (fun C7 A outer s H vs Q E hr h=>?_)
 . obtain⟨_,_,_,_,rfl,_⟩:=h;rfl
 . obtain⟨a,b,ms,ns,rfl,ha,hb,hm,hn,k⟩:=h
   refine⟨_,(Af (Aq (i:=2) Tq.nd (Dc Pi (by rfl) T.n_dict Dl (Aa (pv 0) Ad)))
    (Af (Le (B3 qc3 rfl (Fl (pv 1)) (Dj (K:=K) (n:=2) (by rfl) (Bq (A1 (i:=3) Tq.nd) (Bq (A1 (i:=4) Tq.nd) Di))) (Ak (Cf (Ao Ht hr (Aa (pv 2) (Aa (pv 3) (Aa (pv 4) Ad))))))))
    (Ak (A8 (pv 2))))),?_⟩
   refine⟨_,rfl,a,cK ms,rfl,ha,fun D hD=>?_⟩;have Sn:b≠D:=Ap hb hD;refine .inr ⟨b,cK ns,(by rw[Ai Sn];exact hb),fun hnd o=>?_⟩;refine⟨_,rfl,b,o,cK ns,rfl,Ab,?_⟩
   refine Ei (d:=b) (o:=o) (kvs:=cK ns) (fun i σ H1=>∃o1 o2,σ=[rS a,rS b,rS D,o1,o2]/\H1 b=some (.frz o (.dK (cK ns)))/\H1 D=some (.dK (cK (Cn ms (ns.take i))))/\(∀c q,c≠b->c≠D->H c=some q->H1 c=some q))
    ⟨none,none,rfl,Ab,?_,?_⟩ (fun i σ H1 _ ⟨_,_,_,e,_⟩=>e) ?_ ?_
   . rw[Ai Sn.symm,Ab];rfl
   . intro c q n1 n2 e;rw[Ai n1,Ai n2];exact e
   . rintro i kk x σ H1 p hx ⟨o1,o2,rfl,hb1,Fu,hk1⟩ hp;obtain⟨q,hq,rfl,rfl⟩:=Ly hx;have npb:b≠p:=Ap hb1 hp;have npD:D≠p:=Ap Fu hp;have hlt:i<ns.length:=(qa2.mp hq).1;refine⟨p,_,rfl,.of Ab,rfl,_,_,rfl,_,_,rfl,rfl,?_⟩;refine⟨_,rfl,_,rfl,_,rfl,D,Cn ms (ns.take i),q.1,q.2,rfl,(by rw[Ai npD];exact Fu),?_,?_⟩
     . have:=Qb (ns.take i) ms;rw[qc4]at this;omega
     . refine⟨_,_,rfl,?_,?_,fun c r n1 n2 e=>?_⟩
       . rw[Ai Sn,Ai npb];exact hb1
       . rw[Ab,IU hq]
       . rw[Ai n2,Ai (Ap (hk1 c r n1 n2 e) hp)];exact hk1 c r n1 n2 e
   . rintro σ H1 ⟨o1,o2,rfl,hb1,Fu,hk1⟩;rw[Hg,qb9]at Fu;refine⟨hb1,_,rfl,k D _ hD (fun c q e=>?_) (by rw[Ai Sn.symm];exact Fu)⟩;by_cases z:c=b
     . subst z;rw[hb]at e;cases e;exact Ab
     . rw[Ai z];exact hk1 c q z (Ap e hD) e
abbrev E7:Stmt:=Hk 33
def Pu:FnScope ["shape","kept","spots"] ["shape","kept"] (Al E7):=Bl
def b9{f:Addr}{fd:FuncData}(F:Ft K "left_with" "left_with" E7 f fd)(T:Hi K mg Am Ax A3 A5 A0 Ag Av A2 Ba A6 Ay Aw A4 A9 Az Ae)(Ig:Has P w K mg base "spots_of" ["things"] 1 (Jj K))(O7:Has P w K mg base "called_by" ["spots","piece"] 1 (O2 K)):B4 P w K mg base Fv 2 f fd ["shape","kept"] (K2 K):=by
 refine F.ok Pu (fun vs H Q E h=>?_) (fun C7 A outer s H vs Q E hr h=>?_)
 . obtain⟨_,_,_,_,rfl,_⟩:=h;rfl
 . obtain⟨a,b,ys,ls,rfl,hL,hS,hnd,Oj,hcl,pL,h4,k⟩:=h
   refine⟨_,(Af (Aq (i:=2) Pu.nd (Ao Ig hr (Aa (pv 1) Ad)))
    (Ak (A8 (Du (N':=["old","spots","shape"]) (cap:=[none,some 2,some 0]) (by rfl) (by kernel_rfl) (Co (K:=K) (pv 1)) (fun _ _ _ _=>(A1 (i:=0) xU)) (fun _ _ _ _=>C4) (fun _ _ _ _=>(Ao O7 hr (Aa (pv 1) (Aa (Bp (Bj (K:=K)) (pv 2) (pv 0) (fun _ _=>rfl)) Ad)))))))),?_⟩
   refine qt6 (fun σ' H'=>∃S:Addr,σ'=[rS a,rS b,rS S]/\Ah H H'/\H' S=some (.dK (cK (Oy ls)))) (fun key=>?_) ?_
   . refine⟨_,rfl,b,ls,rfl,hS,hnd,pL,fun S H' hS' s' hS1=>?_⟩;exact key _ _ ⟨S,rfl,s',hS1⟩
   rintro _ H1 ⟨S,rfl,s1,hSd⟩;refine⟨_,rfl,b,rfl,⟨_,s1.seq hS⟩,fun D hD=>?_⟩
   refine Gk (K:=K) (a:=b) (xs:=ls.map V.int) (fun i us τ G=>Ah H1 G/\G D=some (.lst us)/\Reps K G us (((ls.take i).map fun l=>(ys.getD l.toNat []).map (J8 ls)).map tI)/\∃o,τ=[o,rS S,rS a])
    ⟨Ah.new hD,Ab,rfl,none,rfl⟩ (fun i us τ G _ ⟨g,_⟩=>(s1.trans g).seq hS) ?_ ?_
   . rintro i x us τ G hx ⟨g,Cd,rG,o,rfl⟩;have hi:i<ls.length:=by have:=(qa2.mp hx).1;simpa using this
     have hxv:x=.int ls[i]:=by
      rw[qa7,qa0 hi]at hx;simpa using hx.symm
     subst hxv;have SN:=qc7 hi;obtain⟨l0,l1⟩:=Oj _ SN;have hc:=hcl _ SN
     have e5:(ls.take (i+1)).map (fun l=>(ys.getD l.toNat []).map (J8 ls))=(ls.take i).map (fun l=>(ys.getD l.toNat []).map (J8 ls))++[(ys.getD ls[i].toNat []).map (J8 ls)]:=by
      rw[qf1,qa0 hi,qb1];rfl
     generalize ls[i]=l at l0 l1 hc e5;obtain⟨yu,vy,hyq,hvy,tvy⟩:=LT.get (Rep.same (s1.trans g) hL) l0 l1;have hl4:(ys.getD l.toNat []).length<=4:=h4 _ (Bz (by omega));have usl:us.length<=1000:=by have:=rG.length;rw[qa3,qa3,qc4]at this;omega
     refine⟨_,rfl,_,rfl,_,rfl,a,yu,_,vy,rfl,rfl,hyq,hvy,S,vy,Oy ls,ys.getD l.toNat [],J8 ls,rfl,g _ _ hSd,tvy,by omega,fun f hf=>Xw hnd (hc f hf),fun w G2 g2 tw=>?_⟩;refine⟨g2 _ _ Cd,Cb (by omega),(g.trans g2).turn hD,Ab,?_,_,rfl⟩;rw[e5];exact Ew (g2 _ _ Cd) (Reps.same g2 rG) tw
   . rintro us τ G ⟨g,Cd,rG,_⟩;rw[qa3,qb9]at rG;exact k D us G (s1.free hD) (s1.trans g) Cd rG
abbrev E9:Stmt:=Hk 37
def Lb:FnScope ["chain","faces","number","i","face"] ["chain","faces","number"] (Al E9):=Bl
def d5{f:Addr}{fd:FuncData}(F:Ft K "add_faces" "add_faces" E9 f fd)(T:Hi K mg Am Ax A3 A5 A0 Ag Av A2 Ba A6 Ay Aw A4 A9 Az Ae)(Ht:Has P w K mg base "add_at" ["chain","place","number"] 1 (Hu K)):B4 P w K mg base Fv 2 f fd ["chain","faces","number"] (K4 K):=by
 refine F.ok Lb (fun vs H Q E h=>?_) (fun C7 A outer s H vs Q E hr h=>?_)
 . obtain⟨_,_,_,_,_,rfl,_⟩:=h;rfl
 . obtain⟨a,v,ms,fs,n,rfl,ha,hv,hm,kq⟩:=h;refine⟨_,(Ak (B3 qc3 rfl (mF (K:=K) (by rfl) T.n_enumerate (Aa (pv 1) Ad)) (Dj (K:=K) (n:=2) (by rfl) (Bq (A1 (i:=3) Lb.nd) (Bq (A1 (i:=4) Lb.nd) Di))) (Ak (Cf (Ao Ht hr (Aa (pv 0) (Aa (pv 4) (Aa (mG (Bb C0 (Bg B5 (pv 3) Aj) Aj (Bh _)) (pv 2) (X9 Qw (pv 2))) Ad)))))))),?_⟩;obtain⟨af,rfl,sq⟩:=TI.sq hv
   refine⟨_,rfl,af,rfl,⟨_,sq⟩,jX (K:=K) (a:=af) (xs:=fs.map V.int) (fun i σ H1=>∃o1 o2,σ=[rS a,rS af,iS n,o1,o2]/\Ku a H H1/\H1 a=some (.dK (cK (Jb ms fs n i))))
    ⟨none,none,rfl,fun _ _ _ e=>e,ha⟩ (fun i σ H1 _ ⟨_,_,_,s1,_⟩=>Fw.x s1 ha sq) ?_ ?_⟩
   . rintro i x σ H1 p hx ⟨o1,o2,rfl,s1,ha1⟩ hp;have hi:i<fs.length:=by have:=(qa2.mp hx).1;simpa using this
     have hxv:x=.int (fs.getD i 0):=by
      rw[qa7,qa0 hi]at hx;rw[qa5,qa0 hi];simpa using hx.symm
     subst hxv;have sp:Ah H1 (upd H1 p (.tup [.int i,.int (fs.getD i 0)])):=Ah.new hp;have ha2:=sp _ _ ha1;have hl:=Rq ms fs n i;refine⟨p,_,rfl,.of Ab,rfl,_,_,rfl,_,_,rfl,rfl,?_⟩
     have fin:∀m,m=Ta n i->Hu K [.ref a,.int (fs.getD i 0),.int m] (upd H1 p (.tup [.int i,.int (fs.getD i 0)])) (fun v H'=>∃o1 o2,([rS a,rS af,iS n,some (.int (i:Int)),some (.int (fs.getD i 0))]:St)=[rS a,rS af,iS n,o1,o2]/\Ku a H H'/\H' a=some (.dK (cK (Jb ms fs n (i+1))))) E0:=by
      intro m hm2;subst hm2;refine⟨a,Jb ms fs n i,_,_,rfl,ha2,by omega,_,_,rfl,fun c q n1 e=>?_,Ab⟩;rw[Ai n1];exact sp _ _ (s1 c q n1 e)
     refine⟨_,rfl,_,rfl,_,rfl,_,_,rfl,rfl,(by show(0:Int)<2;decide),rfl,_,rfl,?_⟩;refine ite2 (fun h1=>?_) (fun h1=>?_)
     . have h2:(i:Int)%2=0:=by simpa using h1
       exact⟨_,rfl,fin n (by unfold Ta;rw[if_pos h2])⟩
     . have h2:¬(i:Int)%2=0:=by simpa using h1
       exact⟨_,rfl,_,rfl,fin (-n) (by unfold Ta;rw[if_neg h2])⟩
   . rintro σ H1 ⟨o1,o2,rfl,s1,ha1⟩;rw[qa3]at ha1;exact kq H1 s1 ha1
abbrev Hx:Stmt:=Hk 40
def La:FnScope ["spots","chain","told","place","number"] ["spots","chain"] (Al Hx):=Bl
def eG{f:Addr}{fd:FuncData}(F:Ft K "carried" "carried" Hx f fd)(T:Hi K mg Am Ax A3 A5 A0 Ag Av A2 Ba A6 Ay Aw A4 A9 Az Ae)(Ht:Has P w K mg base "add_at" ["chain","place","number"] 1 (Hu K)):B4 P w K mg base Fv 2 f fd ["spots","chain"] (Mh K):=by
 refine F.ok La (fun vs H Q E h=>?_) (fun C7 A outer s H vs Q E hr h=>?_)
 . obtain⟨_,_,_,_,rfl,_⟩:=h;rfl
 . obtain⟨a,b,ks,ms,rfl,hS,nab,hnk,hb,hm,hin,kq⟩:=h;have Gv:=hr.u8
   refine⟨_,(Af (Aq (i:=2) La.nd Er)
    (Af (Le (B3 qc3 rfl (Fl (pv 1)) (Dj (K:=K) (n:=2) (by rfl) (Bq (A1 (i:=3) La.nd) (Bq (A1 (i:=4) La.nd) Di))) (Ak (Cf (Ao Ht hr (Aa (pv 2) (Aa (b8 (u1 Gv) (pv 0) (pv 3) (fun _ _=>rfl)) (Aa (pv 4) Ad))))))))
    (Ak (A8 (pv 2))))),?_⟩
   refine fun D hD=>?_;have Sn:b≠D:=Ap hb hD;have s2:Ah H (upd H D (.dK [])):=Ah.new hD;have SQ:=s2 _ _ hS;have hb2:=s2 _ _ hb;generalize sR:upd H D (.dK [])=H2 at s2 SQ hb2;have Wz:H2 D=some (.dK []):=by rw[←sR];exact Ab
   refine .inr ⟨b,cK ms,hb2,fun hnd o=>?_⟩;refine⟨_,rfl,b,o,cK ms,rfl,Ab,?_⟩
   refine Ei (d:=b) (o:=o) (kvs:=cK ms) (fun i σ G=>∃o1 o2,σ=[rS a,rS b,rS D,o1,o2]/\G b=some (.frz o (.dK (cK ms)))/\G D=some (.dK (cK (PM ks ms i)))/\(∀c q,c≠b->c≠D->H2 c=some q->G c=some q))
    ⟨none,none,rfl,Ab,?_,?_⟩ (fun i σ G _ ⟨_,_,_,e,_⟩=>e) ?_ ?_
   . rw[Ai Sn.symm];exact Wz
   . intro c q n1 n2 e;rw[Ai n1];exact e
   . rintro i kk x σ G p hx ⟨o1,o2,rfl,Po,Cd,Mc⟩ hp;obtain⟨q,hq,rfl,rfl⟩:=Ly hx;have npb:b≠p:=Ap Po hp;have npD:D≠p:=Ap Cd hp;have hlt:i<ms.length:=(qa2.mp hq).1;have vG:ms.getD i (0,0)=q:=by rw[qa5,hq];rfl
     have hkq:=hin q (qb5 hq);have Pt:Ah G (upd G p (.tup [.int q.1,.int q.2])):=Ah.new hp;have sQ:G a=some (.dK (cK (Oy ks))):=Mc a _ nab (Ap hS hD) SQ;have hcl:=fB ks ms i;refine⟨p,_,rfl,.of Ab,rfl,_,_,rfl,_,_,rfl,rfl,?_⟩;refine⟨_,rfl,_,rfl,_,rfl,a,.int (J8 ks q.1),rfl,x6 (.inl (Pt _ _ sQ)) (Xw hnk hkq),_,rfl,D,PM ks ms i,_,_,rfl,Pt _ _ Cd,by omega,?_⟩;refine⟨_,_,rfl,?_,?_,fun c r n1 n2 e=>?_⟩
     . rw[Ai Sn];exact Pt _ _ Po
     . rw[Ab];show _=some (HO.dK (cK (E4 (PM ks ms i) (J8 ks (ms.getD i (0,0)).1) (ms.getD i (0,0)).2)));rw[vG]
     . rw[Ai n2];exact Pt _ _ (Mc c r n1 n2 e)
   . rintro σ G ⟨o1,o2,rfl,Po,Cd,Mc⟩;rw[Hg]at Cd;refine⟨Po,_,rfl,kq D _ hD (fun c q e=>?_) (by rw[Ai Sn.symm];exact Cd)⟩;by_cases z:c=b
     . subst z;rw[hb]at e;cases e;exact Ab
     . rw[Ai z];exact Mc c q z (Ap e hD) (s2 _ _ e)
abbrev Rc:Stmt:=Hk 42
def Tr:FnScope ["shape","told","face","holders"] ["shape"] (Al Rc):=Bl
theorem qM{f:Addr}{fd:FuncData}(F:Ft K "bent" "bent" Rc f fd)(T:Hi K mg Am Ax A3 A5 A0 Ag Av A2 Ba A6 Ay Aw A4 A9 Az Ae)(Jn:Has P w K mg base "holders_of" ["shape","face"] 1 (Ju K)):B4 P w K mg base Fv 2 f fd ["shape"] (Tp K):=by
 refine F.ok Tr (fun vs H Q E h=>?_) (fun C7 A outer s H vs Q E hr h=>?_)
 . obtain⟨_,_,rfl,_⟩:=h;rfl
 . obtain⟨a,xs,rfl,hL,Xk,h4,k⟩:=h
   refine⟨_,(Af (Aq (i:=1) Tr.nd (Ck Ad))
    (Af (B3 qc3 rfl (B1 (by rfl) T.n_range (Aa (As (Ar (K:=K)) T.n_len qe4 (Aa (pv 0) Ad)) Ad)) (A1 (i:=2) Tr.nd) (Af (Aq (i:=3) Tr.nd (Ao Jn hr (Aa (pv 0) (Aa (pv 2) Ad))))
    (Ak (Br (PW.pt (Rg (Bb C0 (As (Ar (K:=K)) T.n_len qe4 (Aa (pv 3) Ad)) Aj (Bh _)) (N2 (Bb C0 (As (Ar (K:=K)) T.n_len qe4 (Aa (Ao Jn hr (Aa (pv 0) (Aa (Bp (Bj (K:=K)) (pv 3) Aj (fun _ _=>rfl)) Ad))) Ad)) Aj (Bh _))))) (Ak (Cf (Gd (K:=K) qd5 qe1 qe0 C1 (pv 1) (Aa (Ch (Aa (pv 2) (Aa (Bp (Bj (K:=K)) (pv 3) Aj (fun _ _=>rfl)) Ad))) Ad)))) Bd))))
    (Ak (A8 (pv 1))))),?_⟩
   obtain⟨us,hq,ul⟩:=LT.len hL;refine⟨qb6 _,fun D hD=>?_⟩;have s0:Ah H (upd H D (.lst [])):=Ah.new hD;refine⟨_,rfl,a,us,rfl,.inl (s0.seq hq),_,rfl,by omega,by omega,?_⟩;rw[ul]
   refine C3 (lo:=0) (n:=xs.length) (fun i σ G=>∃o2 o3 du,σ=[rS a,rS D,o2,o3]/\Ah H G/\G D=some (.lst du)/\Reps K G du ((Ja xs i).map tI))
    ⟨none,none,[],rfl,s0,Ab,rfl⟩ ?_ ?_
   . rintro i σ G hi ⟨o2,o3,du,rfl,g,Cd,rD⟩;rw[show(0:Int)+(i:Int)=(i:Int) by omega];have zQ:du.length=(Ja xs i).length:=by have:=rD.length;simpa using this
     have bl:=Zh xs i;have eb:Ja xs (i+1)=(if (Gw xs (i:Int)).length=1/\(Gw xs ((Gw xs (i:Int)).getD 0 0)).length=0 then Ja xs i++[[(i:Int),(Gw xs (i:Int)).getD 0 0]] else Ja xs i):=rfl;refine⟨_,rfl,_,rfl,a,xs,_,rfl,Rep.same g hL,Xk,h4,fun Ho G1 hHo g1 rJ=>?_⟩;generalize Gw xs (i:Int)=hs at rJ eb;have Xm:=g1 _ _ Cd;have XH:=Reps.same g1 rD;refine⟨_,rfl,Ho,_,rfl,.inl (.of rJ),rfl,_,rfl,?_⟩;rw[qa3];refine ite2 (fun h1=>?_) (fun h1=>?_);rotate_left
     . have e1:¬hs.length=1:=fun z=>h1 (by rw[z];rfl);refine Fx (by simp) ?_;refine⟨_,_,du,rfl,g.trans g1,Xm,?_⟩;rw[eb,if_neg (fun z=>e1 z.1)];exact XH
     have e1:hs.length=1:=by
      have:(hs.length:Int)=1:=by simpa using h1
      omega
     obtain⟨h0,rfl⟩:∃h0,hs=[h0]:=by
      match hs,e1 with
      | [h0],_=>exact⟨h0,rfl⟩
     refine⟨_,rfl,_,rfl,Ho,_,_,_,rfl,rfl,.of rJ,rfl,a,xs,h0,rfl,Rep.same (g.trans g1) hL,Xk,h4,fun H2 G2 sR g2 Ai8=>?_⟩;refine⟨H2,_,rfl,.inl (.of Ai8),rfl,_,rfl,?_⟩;rw[qa3];have gg:=g.trans (g1.trans g2);have Pa:=g2 _ _ Xm;have sA:=Reps.same g2 XH;refine ite2 (fun h2=>?_) (fun h2=>?_)
     . have e2:(Gw xs h0).length=0:=by
        have:((Gw xs h0).length:Int)=0:=by simpa using h2
        omega
       refine⟨_,rfl,.inl ⟨rfl,_,.of Pa⟩,_,rfl,_,rfl,Ho,_,_,_,rfl,rfl,.of (g2 _ _ rJ),rfl,Bk (by simp),fun T1 hT1=>?_⟩;have g3:Ah G2 (upd G2 T1 (.tup [.int i,.int h0])):=Ah.new hT1;have v3:(upd G2 T1 (.tup [.int i,.int h0])) T1=some (.tup [.int i,.int h0]):=Ab;generalize upd G2 T1 (.tup [.int i,.int h0])=G3 at g3 v3;have YL:=g3 _ _ Pa;refine⟨D,_,_,rfl,rfl,YL,Cb (by omega),?_⟩;refine⟨_,_,_,rfl,(gg.trans g3).turn hD,Ab,?_⟩;rw[eb,if_pos ⟨rfl,e2⟩];exact Ew YL (Reps.same g3 sA) (TI.mk (.of v3))
     . have e2:¬(Gw xs h0).length=0:=fun z=>h2 (by rw[z];rfl);refine⟨_,_,du,rfl,gg,Pa,?_⟩;rw[eb,if_neg (fun z=>e2 z.2)];exact sA
   . rintro σ G ⟨o2,o3,du,rfl,g,Cd,rD⟩;exact⟨_,rfl,k D du G hD g Cd rD⟩
abbrev Kj:Stmt:=Hk 53
def Q9:FnScope ["_law_pieces","_law_thing","_law_face","_law_j"] ["_law_pieces","_law_thing"] (Al Kj):=Bl
theorem IZ{f:Addr}{fd:FuncData}(F:Ft K "_law_fits" "_law_fits" Kj f fd)(T:Hi K mg Am Ax A3 A5 A0 Ag Av A2 Ba A6 Ay Aw A4 A9 Az Ae)(Cp:Has P w K mg base "_law_level" ["_law_piece"] 1 (Cq K))(Km:Has P w K mg base "_law_meets" ["_law_pieces","_law_faces","_law_face"] 1 (Nw K))(Ix:Has P w K mg base "_law_whole" ["_law_found"] 1 (K6 K)):B4 P w K mg base Fv 2 f fd ["_law_pieces","_law_thing"] (Q1 K):=by
 refine F.ok Q9 (fun vs H Q E h=>?_) (fun C7 A outer s H vs Q E hr h=>?_)
 . obtain⟨_,_,_,_,rfl,_⟩:=h;rfl
 . obtain⟨a,th,e,xs,rfl,hL,WN,Xk,hd,k⟩:=h;have Gv:=hr.u8
   refine⟨_,(Af (Br (PW.pt (Oq (Em (Db (As (kR (K:=K)) T.n_isinstance A7 (Aa (pv 1) (Aa (Fo (v:=.ty "tuple") rfl T.n_tuple Fi rfl) Ad))))) (Mn (Bb (Ge (K:=K) Gv) (As (Ar (K:=K)) T.n_len qe4 (Aa (pv 1) Ad)) (Ch (Aa Aj (Aa Aj (Aa Aj (Aa Aj Ad))))) rfl)))) (Ak (A8 Es)) Bd)
    (Af (B3 qc3 rfl (N7 (K:=K) (pv 1)) (A1 (i:=2) Q9.nd) (Af (Br (PW.pt (Oq (Em (Db (Ao Ix hr (Aa (pv 2) Ad)))) (Oq (Bb P6 (pv 2) Aj (Bh _)) (Mn (Bb SG (pv 2) (As (Ar (K:=K)) T.n_len qe4 (Aa (pv 0) Ad)) (Bh _)))))) (Ak (A8 Es)) Bd)
    (Ak (Br (Bb Yd (Bg Dq (Ao Cp hr (Aa (Bp (Bj (K:=K)) (pv 0) (pv 2) (fun _ _=>rfl)) Ad)) Aj) (Ao Cp hr (Aa (pv 1) Ad)) (Bh _)) (Ak (A8 Es)) Bd))))
    (Af (B3 qc3 rfl (B1 (by rfl) T.n_range (Aa (As (Ar (K:=K)) T.n_len qe4 (Aa (pv 1) Ad)) Ad)) (A1 (i:=3) Q9.nd) (Ak (Br (Em (Db (Ao Km hr (Aa (pv 0) (Aa (Fm (Iu (K:=K)) (pv 1) Jl (Gs (pv 3))) (Aa (Bp (Bx (K:=K)) (pv 1) (pv 3) (fun _ _=>rfl)) Ad)))))) (Ak (A8 Es)) Bd)))
    (Ak (A8 Es))))),?_⟩
   refine⟨_,rfl,th,"tuple",.one e,rfl,.inr (.inr (.inr (.inl rfl))),hd,_,rfl,?_⟩;cases e with
   | nul=>exact k H (Ah.refl H)
   | d d =>
     have hd:Rep K H th d:=hd;have k:∀H',Ah H H'->Q (.bl (Jp xs d)) H':=k;cases d with
     | non=>exact k H (Ah.refl H)
     | bl b=>exact k H (Ah.refl H)
     | int i=>exact k H (Ah.refl H)
     | str z=>exact k H (Ah.refl H)
     | lst es=>exact k H (Ah.refl H)
     | tup ds =>
       obtain⟨pa,us,rfl,YC,r0⟩:=id hd;have ul:us.length=ds.length:=r0.length;refine Fx (by simp[isT,isE,FJ]) ?_;refine⟨_,rfl,pa,us,rfl,.inr YC,Bk (by simp),fun C hC=>?_⟩;have sC:Ah H (upd H C (.tup [.int 0,.int 2,.int 3,.int 4])):=Ah.new hC;refine⟨.int (us.length:Int),B7 [0,2,3,4],rfl,.inr ⟨C,_,rfl,.of Ab,Gc.mpr rfl⟩,(by rw[Gi];decide),_,rfl,?_⟩;rw[ul]
       have cnt:(!(B7 [0,2,3,4]).any fun e=>eqD e (.int (ds.length:Int)))=!Xp ds.length:=by
        have:(B7 [0,2,3,4]).any (fun e=>eqD e (.int (ds.length:Int)))=Xp ds.length:=by
         simp only[B7,qc6,qj1,qh8,qt4,eqD,Xp];rw[qh4];simp only[qq5,beq_iff_eq,qs4];omega
        rw[this]
       have k1:=k _ sC;by_cases hc:Xp ds.length=true;rotate_left
       . have hc':Xp ds.length=false:=by simpa using hc
         refine L7 (by rw[if_pos rfl,cnt,hc'];rfl) ?_;have e2:Jp xs (.tup ds)=false:=by rw[Ii];simp[hc']
         rw[e2]at k1;exact k1
       refine Fx (by rw[if_pos rfl,cnt,hc];simp) ?_;have hn4:ds.length<=4:=(HB hc).1
       refine⟨_,rfl,pa,rfl,⟨_,sC.seqT YC⟩,gX (K:=K) (a:=pa) (xs:=us) (fun i σ H2=>Ah H H2/\(∃o2,σ=[rS a,rS pa,o2,none])/\((ds.take i).all fun e=>B8 xs e (Ca ds.length-1))=true)
        ⟨sC,⟨none,rfl⟩,rfl⟩ (fun i σ H2 _ ⟨s2,_⟩=>s2.seqT YC) ?_ ?_⟩
       . rintro i x σ H2 hx ⟨s2,⟨o2,rfl⟩,hall⟩;have hq:Fw K H2 pa us:=s2.seqT YC;have r:Reps K H2 us ds:=Reps.same s2 r0;have Wy:LT K H2 (.ref a) xs:=Rep.same s2 hL;have k1:=k H2 s2;obtain⟨xu,WL,Ae0⟩:=LT.len Wy;obtain⟨e,he,re⟩:=r.getV hx;have hne:1<=ds.length:=by have:=(qa2.mp he).1;omega
         have hn2:2<=ds.length:=by have:=(HB hc).2;omega
         have bad:B8 xs e (Ca ds.length-1)=false->Jp xs (.tup ds)=false:=fun z=>by
          have:(ds.all fun e=>B8 xs e (Ca ds.length-1))=false:=by
           rw[qs8];exact⟨e,qb5 he,by simp[z]⟩
          rw[Ii,this];simp
         refine⟨_,rfl,x,e,rfl,re,_,rfl,?_⟩;by_cases hw:D3 e=true;rotate_left
         . have hw':D3 e=false:=by simpa using hw
           refine L7 (by rw[hw'];rfl) ?_;have e2:=bad (by cases e<;>first | rfl | (exfalso;exact hw rfl));rw[e2]at k1;exact k1
         refine Fx (by rw[hw];simp) ?_;obtain⟨f,rfl⟩:=T5 hw;cases (show x=.int f from re);refine⟨_,rfl,_,_,rfl,rfl,_,rfl,?_⟩;by_cases h0:0<=f;rotate_left
         . refine L7 (by simp;omega) ?_;have e2:=bad (by show(decide (0<=f)&&decide (f<(xs.length:Int))&&decide (Ca (xs.getD f.toNat []).length=_))=false;simp[h0]);rw[e2]at k1;exact k1
         refine Fx (by simp;omega) ?_;refine⟨_,rfl,_,rfl,a,xu,rfl,.inl WL,_,_,rfl,rfl,_,rfl,?_⟩;rw[Ae0];by_cases h1:f<(xs.length:Int);rotate_left
         . refine L7 (by simp;omega) ?_;have e2:=bad (by show(decide (0<=f)&&decide (f<(xs.length:Int))&&decide (Ca (xs.getD f.toNat []).length=_))=false;simp[h1]);rw[e2]at k1;exact k1
         refine Fx (by simp;omega) ?_;obtain⟨xu',v,hq',hv,tv⟩:=LT.get Wy h0 h1;refine⟨_,rfl,_,rfl,a,xu',f,_,rfl,rfl,hq',hv,v,B7 (xs.getD f.toNat []),rfl,.inr tv,_,_,rfl,rfl,_,rfl,.ref pa,ds,rfl,.inr (Rep.same s2 hd),rfl,_,rfl,?_⟩;rw[show(B7 (xs.getD f.toNat [])).length=(xs.getD f.toNat []).length from qa3 ..]
         have key:B8 xs (.int f) (Ca ds.length-1)=decide (Ca (xs.getD f.toNat []).length+1=Ca ds.length):=by
          show(decide (0<=f)&&decide (f<(xs.length:Int))&&decide (Ca (xs.getD f.toNat []).length=Ca ds.length-1))=_;rw[qd3 h0,qd3 h1];simp only[Bool.and_self,Bool.true_and];exact decide_eq_decide.mpr (by omega)
         by_cases hg:Ca (xs.getD f.toNat []).length+1=Ca ds.length;rotate_left
         . refine L7 (neI hg) ?_;have e2:=bad (by rw[key];exact qe3 hg);rw[e2]at k1;exact k1
         refine Fx (eqI hg) ?_;refine⟨s2,⟨_,rfl⟩,?_⟩;rw[qf1,he,List.all_append,hall];show(true&&(B8 xs (.int f) (Ca ds.length-1)&&true))=true;rw[key,qd3 hg];rfl
       . rintro σ H1 ⟨s1,⟨o2,rfl⟩,hall⟩;have hq:Fw K H1 pa us:=s1.seqT YC;have Wy:LT K H1 (.ref a) xs:=Rep.same s1 hL;have hd1:Rep K H1 (.ref pa) (.tup ds):=Rep.same s1 hd;have k1:=k H1 s1;rw[ul,qb9]at hall;have hint:=dF hall
         have tv:TI K H1 (.ref pa) (ds.map tO):=by
          have:=hd1;rw[hint]at this;exact this
         generalize hp:ds.map tO=p at hint tv;have hpn:p.length=ds.length:=by rw[←hp,qa3]
         have e2:Jp xs (.tup ds)=(decide (Ca ds.length<2) || Pl xs p):=by rw[Ii];rw[hall,hc,hp];rfl
         have hfs:∀f∈p,0<=f/\f<(xs.length:Int)/\Ca (xs.getD f.toNat []).length+1=Ca p.length:=by
          intro f hf;rw[qc8]at hall
          have hm:L2.D.int f∈ds:=by
           rw[hint];exact qd8.mpr ⟨f,hf,rfl⟩
          have:=hall _ hm;simp only[B8,qb4,qk2]at this;obtain⟨⟨f0,f1⟩,f2⟩:=this;exact⟨f0,f1,by rw[hpn];omega⟩
         have ma:=jL WN hfs;rw[hpn]at ma;obtain⟨pa',ez,XD⟩:=tv.sq;cases ez
         have no:∀j G,j<ds.length->¬meetsB xs (p.take j) (p.getD j 0)=true->Ah H G->Q (.bl false) G:=fun j G hj hm g=>by
          have kG:=k G g
          have:Jp xs (.tup ds)=false:=by
           rw[e2,qt0];exact fun z=>hm (ma.mpr z j hj)
          rw[this]at kG;exact kG
         refine⟨_,rfl,pa,us,rfl,.inr hq,_,rfl,by omega,by omega,?_⟩;rw[ul]
         refine C3 (lo:=0) (n:=((ds.length:Nat):Int).toNat) (fun j σ H2=>Ah H1 H2/\(∃o2 o3,σ=[rS a,rS pa,o2,o3])/\∀j',j'<j->meetsB xs (p.take j') (p.getD j' 0)=true)
          ⟨Ah.refl _,⟨_,none,rfl⟩,fun j' h=>absurd h (by omega)⟩ ?_ ?_
         . rintro j σ G hj ⟨g,⟨o2,o3,rfl⟩,hall2⟩;have hj':j<p.length:=by omega
           rw[show(0:Int)+(j:Int)=(j:Int) by omega]
           have RE:Pp (p.map V.int) (j:Int)=some (.int (p.getD j 0)):=by
            have:=Hh (sp:=p) (x:=(j:Int)) (by omega) (by omega)
            rwa [qd0]at this
           refine⟨_,rfl,_,rfl,_,rfl,_,rfl,pa,_,rfl,g.seqT XD,?_,fun T1 G1 g1 q1=>?_⟩
           . rw[qa3];rintro ⟨_,z⟩;rw[HT.sIx_nat]at z;omega
           rw[Nm,←qj4]at q1;have gg:=g.trans g1;obtain⟨x0,x1,x2⟩:=hfs _ (Bz hj');have hcx:=WN.at x0 x1;refine⟨_,rfl,_,rfl,pa,_,_,_,rfl,rfl,gg.seqT XD,RE,a,.ref T1,xs,p.take j,p.getD j 0,rfl,Rep.same gg Wy,TI.mk q1,x0,x1,fun y hy=>⟨(hfs y (qh5 hy)).1,(hfs y (qh5 hy)).2.1⟩,by rw[qc4];omega,?_,?_⟩
           . rw[Ey,Ey]at x2;by_cases hz:(xs.getD (p.getD j 0).toNat []).length=0
             . exact .inl hz
             . refine .inr ⟨by rw[qc4];omega,fun y hy=>?_⟩;obtain⟨y0,y1,y2⟩:=hfs y (qh5 hy);have hcy:=WN.at y0 y1;rw[Ey,Ey]at y2;rw[qc4];omega
           refine⟨_,rfl,?_⟩;by_cases hm:meetsB xs (p.take j) (p.getD j 0)=true
           . rw[hm];refine Fx (by simp) ?_;refine⟨gg,⟨_,_,rfl⟩,fun j' hj2=>?_⟩;by_cases z:j'=j
             . subst z;exact hm
             . exact hall2 j' (by omega)
           . refine L7 (by simpa using hm) ?_;exact no j G1 (by omega) hm (s1.trans gg)
         . rintro σ G ⟨g,⟨o2,o3,rfl⟩,hall2⟩;have kG:=k G (s1.trans g)
           have:Jp xs (.tup ds)=true:=by
            rw[e2];exact ma.mp fun j hj=>hall2 j (by omega)
           rw[this]at kG;exact kG
abbrev Kf:Stmt:=Hk 55
def X2:FnScope ["_law_pieces","_law_cell","_law_points"] ["_law_pieces","_law_cell"] (Al Kf):=Bl
def IX{f:Addr}{fd:FuncData}(F:Ft K "_law_side" "_law_side" Kf f fd)(T:Hi K mg Am Ax A3 A5 A0 Ag Av A2 Ba A6 Ay Aw A4 A9 Az Ae)(C9:Has P w K mg base "_law_pick" ["_law_cell","_law_j","_law_many"] 1 (F1 K)):B4 P w K mg base Fv 2 f fd ["_law_pieces","_law_cell"] (Q3 K):=by
 refine F.ok X2 (fun vs H Q E h=>?_) (fun C7 A outer s H vs Q E hr h=>?_)
 . obtain⟨_,_,_,rfl,_⟩:=h;rfl
 . obtain⟨a,xs,c,rfl,hL,Xk,k⟩:=h
   refine⟨_,(Af (Hq (N':=["_law_place","_law_pieces"]) (cap:=[none,some 0]) (i:=2) X2.nd (by rfl) (by first | exact Or.inl rfl | exact Or.inr rfl) (by rfl) (by kernel_rfl) (B1 (by rfl) T.n_range (Aa (As (Ar (K:=K)) T.n_len qe4 (Aa (pv 0) Ad)) Ad)) (fun _ _ _ _=>(A1 (i:=0) SH)) (fun _ _ _ _=>(N3 (Bb C0 (As (Ar (K:=K)) T.n_len qe4 (Aa (Bp (Bj (K:=K)) (pv 1) (pv 0) (fun _ _=>rfl)) Ad)) Aj (Bh _)))) (fun _ _ _ _=>(pv 0)))
    (Af (Br (Bb C0 (As (Ar (K:=K)) T.n_len qe4 (Aa (pv 2) Ad)) Aj (Bh _)) (Ak (A8 (Ch Ad))) Bd)
    (Ak (A8 (Ch (Aa (Bp (Bj (K:=K)) (pv 2) (Ao C9 hr (Aa (pv 1) (Aa Aj (Aa (As (Ar (K:=K)) T.n_len qe4 (Aa (pv 2) Ad)) Ad)))) (fun _ _=>rfl)) (Aa (Bp (Bj (K:=K)) (pv 2) (Ao C9 hr (Aa (pv 1) (Aa Aj (Aa (As (Ar (K:=K)) T.n_len qe4 (Aa (pv 2) Ad)) Ad)))) (fun _ _=>rfl)) Ad))))))),?_⟩
   obtain⟨us,hq,ul⟩:=LT.len hL;refine qt6 (fun σ' H'=>∃(P:Addr) (ps:List Int),σ'=[rS a,iS c,rS P]/\Ah H H'/\H' P=some (.lst (ps.map V.int))) (fun key=>?_) ?_
   . refine⟨_,rfl,a,us,rfl,.inl hq,_,rfl,by omega,by omega,fun D hD=>?_⟩
     refine Gj (fun i ys τ G=>Ah H G/\G D=some (.lst ys)/\(∃ps:List Int,ys=ps.map V.int/\ps.length<=i)/\∃o,τ=[o,rS a])
      ⟨Ah.new hD,Ab,⟨[],rfl,qa8 _⟩,none,rfl⟩ ?_ ?_
     . rintro i ys τ G hi ⟨g,Cd,⟨ps,rfl,hpl⟩,o,rfl⟩;have hi2:i<xs.length:=by omega
       obtain⟨u1,v1,hu1,rS,lD⟩:=LT.get (i:=(0:Int)+(i:Int)) (Rep.same g hL) (by omega) (by omega);obtain⟨b1,rfl,hb1⟩:=lD.sq;refine⟨_,rfl,_,rfl,a,u1,_,_,rfl,rfl,hu1,rS,b1,_,rfl,.inr hb1,rfl,_,rfl,?_⟩;refine ite2 (fun h1=>?_) (fun h1=>?_)
       . exact⟨_,rfl,Cd,Cb (by rw[qa3];omega),g.turn hD,Ab,⟨ps++[(0:Int)+(i:Int)],by simp,by simp;omega⟩,_,rfl⟩
       . exact⟨g,Cd,⟨ps,rfl,by omega⟩,_,rfl⟩
     . rintro ys τ G ⟨g,Cd,⟨ps,rfl,hpl⟩,_⟩;exact key _ _ ⟨D,ps,rfl,g,Cd⟩
   rintro _ H1 ⟨P,ps,rfl,s1,hP⟩;have pe:(ps.map V.int).length=ps.length:=qa3 ..;refine⟨_,rfl,P,_,rfl,.inl (.of hP),rfl,_,rfl,?_⟩;rw[pe];refine ite2 (fun h1=>?_) (fun h1=>?_)
   . refine⟨qb6 _,fun T1 hT1=>?_⟩;exact k (.ref T1) [] _ (s1.trans (Ah.new hT1)) (TI.mk (.of Ab))
   . have hp:0<(ps.length:Int):=by
      have:¬ps.length=0:=fun z=>h1 (by rw[z];rfl);omega
     refine⟨_,rfl,_,rfl,_,rfl,P,_,rfl,.inl (.of hP),_,_,_,rfl,by rw[pe];exact hp,fun r1 H2 s2 r10 r11=>?_⟩;rw[pe]at r11;refine⟨P,_,_,_,rfl,rfl,.of (s2 _ _ hP),Hh r10 r11,_,rfl,_,rfl,_,rfl,P,_,rfl,.inl (.of (s2 _ _ hP)),_,_,_,rfl,by rw[pe];exact hp,fun r2 H3 s3 r20 r21=>?_⟩;rw[pe]at r21;refine⟨P,_,_,_,rfl,rfl,.of ((s2.trans s3) _ _ hP),Hh r20 r21,Bk (by simp),fun T1 hT1=>?_⟩;exact k (.ref T1) [_,_] _ (((s1.trans s2).trans s3).trans (Ah.new hT1)) (TI.mk (.of Ab))
abbrev Da:Stmt:=Hk 59
def Bu:FnScope ["_law_words","_law_word","_law_family","_law_layer","_law_rows","_law_k","_law_below","_law_one","_law_face","_law_more"] ["_law_words","_law_word","_law_family"] (Al Da):=Bl
def Tb{f:Addr}{fd:FuncData}(F:Ft K "_law_words_with" "_law_words_with" Da f fd)(T:Hi K mg Am Ax A3 A5 A0 Ag Av A2 Ba A6 Ay Aw A4 A9 Az Ae)(Fg:Has P w K mg base "_law_faces_by" ["_law_word","_law_family"] 1 (Gn K)):B4 P w K mg base Fv 2 f fd ["_law_words","_law_word","_law_family"] (Gy K):=by
 refine F.ok Bu (fun vs H Q E h=>?_) (fun C7 A outer s H vs Q E hr h=>?_)
 . obtain⟨_,_,_,_,_,_,rfl,_⟩:=h;rfl
 . obtain⟨l,us,v,ws,w,fam,rfl,hl,hr0,hv,hw,hlen,k⟩:=h;have Gv:=hr.u8
   refine⟨_,(Af (Aq (i:=3) Bu.nd (Ck (Aa (pv 1) Ad)))
    (Af (Aq (i:=4) Bu.nd (Ck Ad))
    (Af (B3 qc3 rfl (B1 (by rfl) T.n_range (Aa Aj Ad)) (A1 (i:=5) Bu.nd) (Af (Aq (i:=4) Bu.nd (Bg (Kk (K:=K)) (pv 3) (pv 4)))
    (Af (Aq (i:=6) Bu.nd (Ck Ad))
    (Af (B3 qc3 rfl (Co (K:=K) (pv 3)) (A1 (i:=7) Bu.nd) (Ak (B3 qc3 rfl (Co (K:=K) (Ao Fg hr (Aa (pv 7) (Aa (pv 2) Ad)))) (A1 (i:=8) Bu.nd) (Ak (Br (PW.pt (Rg (Bb (Ge (K:=K) Gv) (pv 8) (pv 0) rfl) (N2 (Bb (Ge (K:=K) Gv) (pv 8) (pv 6) rfl)))) (Ak (Cf (Gd (K:=K) qd5 qe1 qe0 C1 (pv 6) (Aa (pv 8) Ad)))) Bd)))))
    (Ak (Aq (i:=3) Bu.nd (pv 6)))))))
    (Af (Aq (i:=9) Bu.nd (Dc (Ou (K:=K)) (by rfl) T.n_list Pj (Aa (pv 0) Ad)))
    (Af (B3 qc3 rfl (Co (K:=K) (pv 4)) (A1 (i:=7) Bu.nd) (Ak (Br (Bb (Ge (K:=K) Gv) (pv 7) (pv 9) rfl) (Ak (Cf (Gd (K:=K) qd5 qe1 qe0 C1 (pv 9) (Aa (pv 7) Ad)))) Bd)))
    (Ak (A8 (pv 9)))))))),?_⟩
   have s0w:∀u∈[w],D0 fam u:=fun u hu=>by
    have e:u=w:=by simpa using hu
    subst e;exact hw
   refine⟨_,rfl,Bk (by simp),fun L0 hL0=>?_⟩;have s1:Ah H (upd H L0 (.lst [v])):=Ah.new hL0;refine⟨qb6 _,fun R0 hR0=>?_⟩;have s2:Ah (upd H L0 (.lst [v])) (upd (upd H L0 (.lst [v])) R0 (.lst [])):=Ah.new hR0
   refine⟨_,rfl,by decide,by decide,C3 (lo:=0) (n:=(4:Int).toNat)
    (fun i σ H2=>∃(L R:Addr) (lu ru:List V) (layer rows:LLInt) (o5 o6 o7 o8 o9:Option V),σ=[rS l,some v,iS fam,rS L,rS R,o5,o6,o7,o8,o9]/\Ah H H2 ∧
      H2 L=some (.lst lu)/\Reps K H2 lu (layer.map tI)/\H2 R=some (.lst ru)/\Reps K H2 ru (rows.map tI)/\(∀u∈layer,D0 fam u)/\Lk ws fam (4-i) layer rows=Lk ws fam 4 [w] []/\layer.length<=4 ^ i/\rows.length<=1000*i)
    ⟨L0,R0,[v],[],[w],[],none,none,none,none,none,rfl,s1.trans s2,s2 _ _ Ab,Reps.one (qn2 (s1.trans s2) hv),Ab,rfl,s0w,rfl,by simp,by simp⟩ ?_ ?_⟩
   . rintro i σ H2 hi ⟨L,R,lu,ru,layer,rows,o5,o6,o7,o8,o9,rfl,sH,hL,rL,hR,rR,WM,hlay,pL,hrl⟩;have hi4:i<4:=by simpa using hi
     have h4i:4 ^ i<=64:=by
      have:i=0\/i=1\/i=2\/i=3:=by omega
      rcases this with rfl | rfl | rfl | rfl<;>decide
     have lul:lu.length=layer.length:=by have:=rL.length;simpa using this
     have rul:ru.length=rows.length:=by have:=rR.length;simpa using this
     refine⟨_,rfl,_,rfl,L,R,_,_,rfl,rfl,.of hL,.of hR,Bk (by omega),fun R1 lE=>?_⟩;have sa:Ah H2 (upd H2 R1 (.lst (lu++ru))):=Ah.new lE;have Ah8:(upd H2 R1 (.lst (lu++ru))) R1=some (.lst (lu++ru)):=Ab
     have rRa:Reps K (upd H2 R1 (.lst (lu++ru))) (lu++ru) ((layer++rows).map tI):=by
      rw[qb1];exact(Reps.same sa rL).append (Reps.same sa rR)
     have hLa:=sa _ _ hL;have rLa:Reps K (upd H2 R1 (.lst (lu++ru))) lu (layer.map tI):=Reps.same sa rL;have zC:Ah H (upd H2 R1 (.lst (lu++ru))):=sH.trans sa;refine⟨qb6 _,fun B hB=>?_⟩;have sb:Ah (upd H2 R1 (.lst (lu++ru))) (upd (upd H2 R1 (.lst (lu++ru))) B (.lst [])):=Ah.new hB;have hBH:H B=none:=zC.free hB
     refine⟨_,rfl,L,rfl,⟨_,.of (sb _ _ hLa)⟩,for_list (K:=K) (a:=L) (xs:=lu)
      (fun j σ H3=>∃(bu:List V) (o7 o8:Option V),σ=[rS l,some v,iS fam,rS L,rS R1,some (.int (0+i)),rS B,o7,o8,o9]/\Ah (upd H2 R1 (.lst (lu++ru))) H3/\H3 B=some (.lst bu) ∧
        Reps K H3 bu ((Df ws fam [] (layer.take j)).map tI))
      ⟨[],_,_,rfl,sb,Ab,rfl⟩ (fun j σ H3 _ ⟨_,_,_,_,s3,_⟩=>.of (s3 _ _ hLa)) ?_ ?_⟩
     . rintro j x σ H3 hx ⟨bu,o7,o8,rfl,s3,ZN,rB⟩;have hj:j<lu.length:=(qa2.mp hx).1;have hjl:j<layer.length:=by omega
       have hjx:(layer.map tI)[j]?=some (tI layer[j]):=by rw[qa7,qa0 hjl];rfl
       obtain⟨x',hx',tx⟩:=rLa.get hjx;rw[hx]at hx';cases hx';have hwj:D0 fam layer[j]:=WM _ (qc7 _);refine⟨_,rfl,_,rfl,x,layer[j],fam,rfl,qn2 s3 tx,hwj,fun p fu H4 hp s4 ZI r4=>?_⟩;have fl:=Ij hwj;have ful:fu.length=(Au layer[j] fam).length:=by have:=r4.length;simpa using this
       have hpB:p≠B:=fun z=>by rw[z,ZN]at hp;cases hp
       have hB4:=s4 _ _ ZN
       refine⟨p,rfl,⟨_,.of ZI⟩,for_list (K:=K) (a:=p) (xs:=fu)
        (fun m σ H5=>∃(bu:List V) (o8:Option V),σ=[rS l,some v,iS fam,rS L,rS R1,some (.int (0+i)),rS B,some x,o8,o9]/\Dx B H4 H5/\H5 B=some (.lst bu) ∧
          Reps K H5 bu ((Cc ws (Df ws fam [] (layer.take j)) ((Au layer[j] fam).take m)).map tI)/\(Cc ws (Df ws fam [] (layer.take j)) ((Au layer[j] fam).take m)).length<=1000)
        ⟨bu,_,rfl,Dx.refl _ _,hB4,(by simpa[Cc]using Reps.same s4 rB),?_⟩ (fun m σ H5 _ ⟨_,_,_,s5,_⟩=>.of (s5 _ _ hpB ZI)) ?_ ?_⟩
       . have:=Kt (ws:=ws) (fam:=fam) (layer.take j) [] (fun u hu=>WM u (qh5 hu));simp only[List.take_zero,Cc,qf7,qc4]at this ⊢;omega
       . rintro m y σ H5 hy ⟨wQ,o8',rfl,s5,sS,QD,Ah0⟩;have hm:m<fu.length:=(qa2.mp hy).1;have YD:m<(Au layer[j] fam).length:=by omega
         have hmy:((Au layer[j] fam).map tI)[m]?=some (tI (Au layer[j] fam)[m]):=by rw[qa7,qa0 YD];rfl
         obtain⟨y',hy',ty⟩:=r4.get hmy;rw[hy]at hy';cases hy';generalize hf:(Au layer[j] fam)[m]=fc at ty;have ZW:TI K H5 y fc:=TI.t (s5.t hB4) ty
         have hl5:H5 l=some (.lst us):=by
          refine s5 l _ (fun z=>?_) (s4 _ _ (s3 _ _ (zC _ _ hl)));rw[z]at hl;rw[hl]at hBH;cases hBH
         have rl5:Rep K H5 (.ref l) (.lst (ws.map tI)):=⟨l,us,rfl,.of hl5,Reps.t (s5.t hB4) (Qe ws) (Reps.same ((zC.trans s3).trans s4) hr0)⟩
         have rb5:Rep K H5 (.ref B) (.lst ((Cc ws (Df ws fam [] (layer.take j)) ((Au layer[j] fam).take m)).map tI)):=⟨B,wQ,rfl,.of sS,QD⟩
         have e0:Cc ws (Df ws fam [] (layer.take j)) ((Au layer[j] fam).take (m+1))=(if fc ∉ ws/\fc ∉ Cc ws (Df ws fam [] (layer.take j)) ((Au layer[j] fam).take m) then Cc ws (Df ws fam [] (layer.take j)) ((Au layer[j] fam).take m)++[fc] else Cc ws (Df ws fam [] (layer.take j)) ((Au layer[j] fam).take m)):=by
          rw[qf1,qa0 YD,hf];exact S0 _ _ _ _
         have Ag9:wQ.length=(Cc ws (Df ws fam [] (layer.take j)) ((Au layer[j] fam).take m)).length:=by have:=QD.length;simpa using this
         have nT:(Cc ws (Df ws fam [] (layer.take j)) ((Au layer[j] fam).take (m+1))).length<=1000:=by
          have h1:=Pm (ws:=ws) ((Au layer[j] fam).take (m+1)) (Df ws fam [] (layer.take j));have h2:=Kt (ws:=ws) (fam:=fam) (layer.take j) [] (fun u hu=>WM u (qh5 hu));simp only[qf7,qc4]at h1 h2;have h3:(Au layer[j] fam).length<=4:=by have:=fl.1;have:=fl.2;split at*<;> omega
          omega
         generalize hacc:Cc ws (Df ws fam [] (layer.take j)) ((Au layer[j] fam).take m)=acc at QD rb5 e0 Ag9 Ah0;refine⟨_,rfl,_,rfl,tI fc,ws.map tI,ZW,.inl rl5,(by have:=Kq ws;omega),_,rfl,?_⟩;by_cases h1:fc∈ws
         . refine Fx (by rw[if_pos rfl,Np];simp[h1]) ?_;refine Fx (by simp) ?_;refine⟨wQ,_,rfl,s5,sS,?_,nT⟩;rw[e0,if_neg (by simp[h1])];exact QD
         . refine L7 (by rw[if_pos rfl,Np];simp[h1]) ?_;refine⟨_,rfl,_,rfl,tI fc,acc.map tI,ZW,.inl rb5,(by have:=Kq acc;omega),_,rfl,?_⟩;by_cases h2:fc∈acc
           . refine Fx (by rw[if_pos rfl,Np];simp[h2]) ?_;refine⟨wQ,_,rfl,s5,sS,?_,nT⟩;rw[e0,if_neg (by simp[h2])];exact QD
           . refine L7 (by rw[if_pos rfl,Np];simp[h2]) ?_;refine⟨_,rfl,.inl ⟨rfl,_,.of sS⟩,_,rfl,B,_,_,rfl,rfl,sS,Cb (by omega),?_⟩;refine⟨_,_,rfl,s5.upd,Ab,?_,nT⟩;rw[e0,if_pos ⟨h1,h2⟩];exact Ew sS QD ZW
       . rintro σ H5 ⟨wQ,o8',rfl,s5,sS,QD,_⟩;refine⟨wQ,_,_,rfl,?_,sS,?_⟩
         . exact s5.same (s3.trans s4) hB
         . rw[ful,qb9]at QD;rw[qf1,qa0 hjl];have e1:Df ws fam [] (layer.take j++(some layer[j]).toList)=Cc ws (Df ws fam [] (layer.take j)) (Au layer[j] fam):=Wh _ _ _ _ _;rw[e1];exact QD
     . rintro σ H3 ⟨bu,o7,o8,rfl,s3,ZN,rB⟩;rw[lul,qb9]at rB;refine⟨_,rfl,?_⟩;refine⟨B,R1,bu,lu++ru,Df ws fam [] layer,layer++rows,_,_,_,_,_,rfl,zC.trans s3,ZN,rB,s3 _ _ Ah8,Reps.same s3 rRa,?_,?_,?_,?_⟩
       . intro u hu;rcases Od _ _ hu with z|⟨t,ht,z⟩
         . exact nomatch z
         . exact(Lv (WM t ht) z).1
       . rw[←hlay,show 4-i=(4-(i+1))+1 by omega];rfl
       . have:=Kt (ws:=ws) (fam:=fam) layer [] WM;simp only[qf7]at this;rw[Nat.pow_succ];omega
       . rw[qd1];omega
   . rintro σ H2 ⟨L,R,lu,ru,layer,rows,o5,o6,o7,o8,o9,rfl,sH,hL,rL,hR,rR,WM,hlay,pL,hrl⟩;have sN:rows=Lk ws fam 4 [w] []:=hlay;have Ae4:=fC (ws:=ws) hw;rw[←sN]at Ae4;have rul:ru.length=rows.length:=by have:=rR.length;simpa using this
     refine⟨_,rfl,l,_,rfl,.inl (.of (sH _ _ hl)),fun M hM=>?_⟩;have sm:Ah H2 (upd H2 M (.lst us)):=Ah.new hM;have hMH:H M=none:=sH.free hM;have usl:us.length=ws.length:=by have:=hr0.length;simpa using this
     refine⟨_,rfl,R,rfl,⟨_,.of (sm _ _ hR)⟩,for_list (K:=K) (a:=R) (xs:=ru)
      (fun j σ H3=>∃(mu:List V) (o7:Option V),σ=[rS l,some v,iS fam,rS L,rS R,o5,o6,o7,o8,rS M]/\Ah H2 H3/\H3 M=some (.lst mu)/\Reps K H3 mu ((Dm ws (rows.take j)).map tI))
      ⟨us,_,rfl,sm,Ab,(by simpa[Dm]using Reps.same (sH.trans sm) hr0)⟩ (fun j σ H3 _ ⟨_,_,_,s3,_⟩=>.of (s3 _ _ hR)) ?_ ?_⟩
     . rintro j x σ H3 hx ⟨mu,o7',rfl,s3,rH,rM⟩;have hj:j<ru.length:=(qa2.mp hx).1;have hjl:j<rows.length:=by omega
       have hjx:(rows.map tI)[j]?=some (tI rows[j]):=by rw[qa7,qa0 hjl];rfl
       obtain⟨x',hx',tx⟩:=rR.get hjx;rw[hx]at hx';cases hx';generalize hf:rows[j]=fc at tx;have tx3:TI K H3 x fc:=qn2 s3 tx
       have e0:Dm ws (rows.take (j+1))=(if fc∈Dm ws (rows.take j) then Dm ws (rows.take j) else Dm ws (rows.take j)++[fc]):=by
        rw[qf1,qa0 hjl,hf];exact S1 _ _ _
       have hal:=Wo (rows.take j) ws;rw[qc4]at hal;have mul:mu.length=(Dm ws (rows.take j)).length:=by have:=rM.length;simpa using this
       generalize hacc:Dm ws (rows.take j)=acc at rM e0 hal mul;have rm3:Rep K H3 (.ref M) (.lst (acc.map tI)):=⟨M,mu,rfl,.of rH,rM⟩
       refine⟨_,rfl,_,rfl,tI fc,acc.map tI,tx3,.inl rm3,(by have:=Kq acc;omega),_,rfl,?_⟩;by_cases h1:fc∈acc
       . refine Fx (by rw[if_pos rfl,Np];simp[h1]) ?_;refine⟨mu,_,rfl,s3,rH,?_⟩;rw[e0,if_pos h1];exact rM
       . refine L7 (by rw[if_pos rfl,Np];simp[h1]) ?_;refine⟨_,rfl,.inl ⟨rfl,_,.of rH⟩,_,rfl,M,_,_,rfl,rfl,rH,Cb (by omega),?_⟩;refine⟨_,_,rfl,s3.turn hM,Ab,?_⟩;rw[e0,if_neg h1];exact Ew rH rM tx3
     . rintro σ H3 ⟨mu,o7',rfl,s3,rH,rM⟩;rw[rul,qb9,sN]at rM;exact⟨_,rfl,k M mu H3 hMH (sH.trans s3) rH rM⟩
abbrev Nz:Stmt:=Hk 65
def Py:FnScope ["_law_one","_law_number_here","_law_other","_law_total","_law_place","_law_value"] ["_law_one","_law_number_here","_law_other"] (Al Nz):=Bl
def MM{f:Addr}{fd:FuncData}(F:Ft K "_law_sum" "_law_sum" Nz f fd)(T:Hi K mg Am Ax A3 A5 A0 Ag Av A2 Ba A6 Ay Aw A4 A9 Az Ae)(Dk:Has P w K mg base "_law_trimmed" ["_law_chain"] 1 (Mf K)):B4 P w K mg base Fv 2 f fd ["_law_one","_law_number_here","_law_other"] (Ps K):=by
 refine F.ok Py (fun vs H Q E h=>?_) (fun C7 A outer s H vs Q E hr h=>?_)
 . obtain⟨_,_,_,_,_,rfl,_⟩:=h;rfl
 . obtain⟨a,b,n,ms,ns,rfl,ha,hb,hml,hnl,hmul,kq⟩:=h;have Gv:=hr.u8
   refine⟨_,(Af (Aq (i:=3) Py.nd (Dc Pi (by rfl) T.n_dict Dl (Aa (pv 0) Ad)))
    (Af (Le (B3 qc3 rfl (Fl (pv 2)) (Dj (K:=K) (n:=2) (by rfl) (Bq (A1 (i:=4) Py.nd) (Bq (A1 (i:=5) Py.nd) Di))) (Ak (N4 (u1 Gv) (pv 3) (pv 4) (Bg Dq (P4 (u1 Gv) (pv 3) (pv 4) Aj ⟨by rfl,by rfl,by rfl,by rfl⟩) (Bg op_mulX (pv 1) (pv 5))) (by rfl)))))
    (Ak (A8 (Ao Dk hr (Aa (pv 3) Ad)))))),?_⟩
   refine qt6 (fun σ' H'=>∃D:Addr,σ'=[rS a,iS n,rS b,rS D,none,none]/\H D=none/\Ah H H'/\H' D=some (.dK (cK ms))) (fun key=>?_) ?_
   . exact⟨_,rfl,a,cK ms,rfl,.inl ha,fun D hD=>key _ _ ⟨D,rfl,hD,Ah.new hD,Ab⟩⟩
   rintro _ H1 ⟨D,rfl,hD,s1,Fu⟩;have Sn:b≠D:=Ap hb hD;have hb1:=s1 _ _ hb;refine qt6 (fun σ' H'=>∃o1 o2,σ'=[rS a,iS n,rS b,rS D,o1,o2]/\Ah H H'/\H' D=some (.dK (cK (Zv ms n ns ns.length)))) (fun key=>?_) ?_
   . refine .inr ⟨b,cK ns,hb1,fun hnd o=>?_⟩;refine⟨_,rfl,b,o,cK ns,rfl,Ab,?_⟩
     refine Ei (d:=b) (o:=o) (kvs:=cK ns) (fun i σ G=>∃o1 o2,σ=[rS a,iS n,rS b,rS D,o1,o2]/\G b=some (.frz o (.dK (cK ns)))/\G D=some (.dK (cK (Zv ms n ns i)))/\(∀c q,c≠b->c≠D->H1 c=some q->G c=some q))
      ⟨none,none,rfl,Ab,by rw[Ai Sn.symm];exact Fu,fun c q n1 n2 e=>by rw[Ai n1];exact e⟩ (fun i σ G _ ⟨_,_,_,e,_⟩=>e) ?_ ?_
     . rintro i kk x σ G p hx ⟨o1,o2,rfl,Po,Cd,Mc⟩ hp;obtain⟨q,hq2,rfl,rfl⟩:=Ly hx;have hlt:i<ns.length:=(qa2.mp hq2).1;have vG:ns.getD i (0,0)=q:=by rw[qa5,hq2];rfl
       have hmq:=hmul q (qb5 hq2);have Pt:Ah G (upd G p (.tup [kV (Sum.inl q.1),.int q.2])):=Ah.new hp;refine⟨p,_,rfl,.of Ab,rfl,_,_,rfl,_,_,rfl,rfl,?_⟩;have YG:=Pt _ _ Po;have Xm:=Pt _ _ Cd;have yE:∀c r,c≠b->c≠D->H1 c=some r->(upd G p (.tup [kV (Sum.inl q.1),.int q.2])) c=some r:=fun c r n1 n2 e=>Pt _ _ (Mc c r n1 n2 e);generalize upd G p (.tup [kV (Sum.inl q.1),.int q.2])=G1 at YG Xm yE ⊢;have lz:=k8 ms n ns i
       have step:Zv ms n ns (i+1)=putI (Zv ms n ns i) q.1 (Be (Zv ms n ns i) q.1+n*q.2):=by
        show putI (Zv ms n ns i) (ns.getD i (0,0)).1 (Be (Zv ms n ns i) (ns.getD i (0,0)).1+n*(ns.getD i (0,0)).2)=_;rw[vG]
       rw[step];refine⟨_,rfl,D,rfl,.inl ⟨_,.inl Xm⟩,_,rfl,_,Ty (.inl Xm),_,rfl,_,rfl,_,_,rfl,rfl,hmq,Be (Zv ms n ns i) q.1,_,T0 _ _,rfl,_,rfl,_,rfl,D,_,rfl,N8 Xm (by omega),?_⟩;exact⟨_,_,rfl,by rw[Ai Sn];exact YG,Ab,fun c r n1 n2 e=>by rw[Ai n2];exact yE c r n1 n2 e⟩
     . rintro σ G ⟨o1,o2,rfl,Po,Cd,Mc⟩;rw[Hg]at Cd;refine⟨Po,key _ _ ⟨o1,o2,rfl,fun c q e=>?_,by rw[Ai Sn.symm];exact Cd⟩⟩;by_cases z:c=b
       . subst z;rw[hb]at e;cases e;exact Ab
       . rw[Ai z];exact Mc c q z (Ap e hD) (s1 _ _ e)
   rintro _ G ⟨o1,o2,rfl,sG,Cd⟩;have lz:=k8 ms n ns ns.length;exact⟨_,rfl,D,Zv ms n ns ns.length,rfl,Cd,by omega,fun D2 H2 n2 s2 e2=>kq D2 H2 (sG.free n2) (sG.trans s2) e2⟩
abbrev Gb:Stmt:=Hk 66
def D5:FnScope ["_law_pieces","_law_chain","_law_total","_law_place","_law_number_here","_law_sign","_law_face"] ["_law_pieces","_law_chain"] (Al Gb):=Bl
def BF{f:Addr}{fd:FuncData}(F:Ft K "_law_border" "_law_border" Gb f fd)(T:Hi K mg Am Ax A3 A5 A0 Ag Av A2 Ba A6 Ay Aw A4 A9 Az Ae)(Dk:Has P w K mg base "_law_trimmed" ["_law_chain"] 1 (Mf K)):B4 P w K mg base Fv 2 f fd ["_law_pieces","_law_chain"] (Ka K):=by
 refine F.ok D5 (fun vs H Q E h=>?_) (fun C7 A outer s H vs Q E hr h=>?_)
 . obtain⟨_,_,_,_,rfl,_⟩:=h;rfl
 . obtain⟨a,b,xs,ms,rfl,hL,h4,hb,YE,hm,kq⟩:=h;have Gv:=hr.u8
   refine⟨_,(Af (Aq (i:=2) D5.nd Er)
    (Af (Le (B3 qc3 rfl (Fl (pv 1)) (Dj (K:=K) (n:=2) (by rfl) (Bq (A1 (i:=3) D5.nd) (Bq (A1 (i:=4) D5.nd) Di))) (Af (Aq (i:=5) D5.nd Aj)
    (Ak (B3 qc3 rfl (N7 (K:=K) (Bp (Bj (K:=K)) (pv 0) (pv 3) (fun _ _=>rfl))) (A1 (i:=6) D5.nd) (Af (N4 (u1 Gv) (pv 2) (pv 6) (Bg Dq (P4 (u1 Gv) (pv 2) (pv 6) Aj ⟨by rfl,by rfl,by rfl,by rfl⟩) (Bg op_mulX (pv 5) (pv 4))) (by rfl))
    (Ak (Aq (i:=5) D5.nd (X9 Qw (pv 5))))))))))
    (Ak (A8 (Ao Dk hr (Aa (pv 2) Ad)))))),?_⟩
   refine qt6 (fun σ' H'=>∃D:Addr,σ'=[rS a,rS b,rS D,none,none,none,none]/\H D=none/\Ah H H'/\H' D=some (.dK (cK []))) (fun key=>?_) ?_
   . exact fun D hD=>key _ _ ⟨D,rfl,hD,Ah.new hD,Ab⟩
   rintro _ H1 ⟨D,rfl,hD,s1,Fu⟩;have Sn:b≠D:=Ap hb hD;have hb1:=s1 _ _ hb;have Wy:=Rep.same s1 hL;refine qt6 (fun σ' H'=>∃o1 o2 o3 o4,σ'=[rS a,rS b,rS D,o1,o2,o3,o4]/\Ah H H'/\H' D=some (.dK (cK (zN xs ms ms.length)))) (fun key=>?_) ?_
   . refine .inr ⟨b,cK ms,hb1,fun hnd o=>?_⟩;refine⟨_,rfl,b,o,cK ms,rfl,Ab,?_⟩
     refine Ei (d:=b) (o:=o) (kvs:=cK ms) (fun i σ G=>∃o1 o2 o3 o4,σ=[rS a,rS b,rS D,o1,o2,o3,o4]/\G b=some (.frz o (.dK (cK ms)))/\G D=some (.dK (cK (zN xs ms i)))/\(∀c q,c≠b->c≠D->H1 c=some q->G c=some q))
      ⟨none,none,none,none,rfl,Ab,by rw[Ai Sn.symm];exact Fu,fun c q n1 n2 e=>by rw[Ai n1];exact e⟩ (fun i σ G _ ⟨_,_,_,_,_,e,_⟩=>e) ?_ ?_
     . rintro i kk x σ G0 p hx ⟨o1,o2,o3,o4,rfl,VM,VQ,NT⟩ hp;obtain⟨q,hq2,rfl,rfl⟩:=Ly hx;have hlt:i<ms.length:=(qa2.mp hq2).1;have vG:ms.getD i (0,0)=q:=by rw[qa5,hq2];rfl
       have hin:=YE q (qb5 hq2);have Pt:Ah G0 (upd G0 p (.tup [kV (Sum.inl q.1),.int q.2])):=Ah.new hp;refine⟨p,_,rfl,.of Ab,rfl,_,_,rfl,_,_,rfl,rfl,?_⟩;have Po:=Pt _ _ VM;have Cd:=Pt _ _ VQ;have Mc:∀c r,c≠b->c≠D->H1 c=some r->(upd G0 p (.tup [kV (Sum.inl q.1),.int q.2])) c=some r:=fun c r n1 n2 e=>Pt _ _ (NT c r n1 n2 e);generalize upd G0 p (.tup [kV (Sum.inl q.1),.int q.2])=G at Po Cd Mc ⊢
       have Xl:LT K G (.ref a) xs:=by
        have e1:Ku b H1 (upd H1 b (.frz o (.dK (cK ms)))):=fun c r n e=>by rw[Ai n];exact e
        have l1:=Rep.x e1 hb1 Wy;have d1:(upd H1 b (.frz o (.dK (cK ms)))) D=some (.dK (cK [])):=by rw[Ai Sn.symm];exact Fu
        have e2:Ku D (upd H1 b (.frz o (.dK (cK ms)))) G:=fun c r n e=>by
         by_cases z:c=b
         . subst z;rw[Ab]at e;cases e;exact Po
         . rw[Ai z]at e;exact Mc c r z n e
        exact Rep.x (m:=cK []) e2 d1 l1
       obtain⟨us,v,YA,NV,tv⟩:=LT.get Xl hin.1 hin.2;obtain⟨av,rfl,tW⟩:=TI.sq tv
       have hfl:(xs.getD q.1.toNat []).length<=4:=by
        rcases Mv (l:=xs) (i:=q.1.toNat) (d:=[]) with z | z
        . exact h4 _ z
        . rw[z];exact qb6 _
       have zl:=Rp h4 ms i
       have step:zN xs ms (i+1)=zF (zN xs ms i) (xs.getD q.1.toNat []) q.2 (xs.getD q.1.toNat []).length:=by
        show zF (zN xs ms i) (xs.getD (ms.getD i (0,0)).1.toNat []) (ms.getD i (0,0)).2 (xs.getD (ms.getD i (0,0)).1.toNat []).length=_;rw[vG]
       rw[step];obtain⟨fs,hfs⟩:∃fs,fs=xs.getD q.1.toNat []:=⟨_,rfl⟩
       rw[←hfs]at tW hfl ⊢;refine⟨_,rfl,_,rfl,a,us,_,_,rfl,rfl,YA,NV,av,rfl,⟨_,tW⟩,?_⟩
       refine gX (K:=K) (a:=av) (xs:=fs.map V.int) (fun m σ G2=>∃o4,σ=[rS a,rS b,rS D,some (.int q.1),some (.int q.2),some (.int (Ta 1 m)),o4]/\G2 D=some (.dK (cK (zF (zN xs ms i) fs q.2 m)))/\Ku D G G2)
        ⟨o4,rfl,Cd,fun c r n e=>e⟩ (fun m σ G2 _ ⟨_,_,_,st⟩=>Fw.x st Cd tW) ?_ ?_
       . rintro m y σ G2 hy ⟨o4,rfl,Wz,st⟩;have hm2:m<fs.length:=by have:=(qa2.mp hy).1;simpa using this
         have RB:y=.int (fs.getD m 0):=by
          rw[qa7,qa0 hm2]at hy;rw[qa5,qa0 hm2];simpa using hy.symm
         subst RB;have lz:=EZ (zN xs ms i) fs q.2 m;have sm:Ta 1 m*q.2=Ta q.2 m:=by unfold Ta;split<;>omega
         have sb:-(2 ^ 64)<Ta 1 m/\Ta 1 m<2 ^ 64:=by unfold Ta;split<;>decide
         refine⟨_,rfl,D,rfl,.inl ⟨_,.inl Wz⟩,_,rfl,_,Ty (.inl Wz),_,rfl,_,rfl,_,_,rfl,rfl,j7 sb.1 sb.2,Be (zF (zN xs ms i) fs q.2 m) (fs.getD m 0),_,T0 _ _,rfl,_,rfl,_,rfl,D,_,rfl,N8 Wz (by omega),?_⟩;rw[sm];refine⟨_,rfl,_,rfl,some (.int (fs.getD m 0)),?_,Ab,fun c r n e=>by rw[Ai n];exact st c r n e⟩;have:Ta 1 (m+1)=- Ta 1 m:=by unfold Ta;split<;>split<;>omega
         rw[this];rfl
       . rintro σ G2 ⟨o4,rfl,Wz,st⟩;rw[qa3]at Wz;exact⟨_,_,_,_,rfl,st _ _ Sn Po,Wz,fun c r n1 n2 e=>st c r n2 (Mc c r n1 n2 e)⟩
     . rintro σ G ⟨o1,o2,o3,o4,rfl,Po,Cd,Mc⟩;rw[Hg]at Cd;refine⟨Po,key _ _ ⟨o1,o2,o3,o4,rfl,fun c q e=>?_,by rw[Ai Sn.symm];exact Cd⟩⟩;by_cases z:c=b
       . subst z;rw[hb]at e;cases e;exact Ab
       . rw[Ai z];exact Mc c q z (Ap e hD) (s1 _ _ e)
   rintro _ G ⟨o1,o2,o3,o4,rfl,sG,Cd⟩;have lz:=Rp h4 ms ms.length;exact⟨_,rfl,D,zN xs ms ms.length,rfl,Cd,by omega,fun D2 H2 n2 s2 e2=>kq D2 H2 (sG.free n2) (sG.trans s2) e2⟩
abbrev Ed:Stmt:=Hk 71
def Gq:FnScope ["_law_pieces","_law_thing","_law_levels","_law_place","_law_number_here"] ["_law_pieces","_law_thing"] (Al Ed):=Bl
theorem Xc{f:Addr}{fd:FuncData}(F:Ft K "_law_is_chain" "_law_is_chain" Ed f fd)(T:Hi K mg Am Ax A3 A5 A0 Ag Av A2 Ba A6 Ay Aw A4 A9 Az Ae)(Cp:Has P w K mg base "_law_level" ["_law_piece"] 1 (Cq K))(Ix:Has P w K mg base "_law_whole" ["_law_found"] 1 (K6 K)):B4 P w K mg base Fv 2 f fd ["_law_pieces","_law_thing"] (Jh K):=by
 refine F.ok Gq (fun vs H Q E h=>?_) (fun C7 A outer s H vs Q E hr h=>?_)
 . obtain⟨_,_,_,_,rfl,_⟩:=h;rfl
 . obtain⟨a,x,xs,t,rfl,hL,h4,hT,hpl,kq⟩:=h
   refine⟨_,(Af (Br (Em (Db (As (Sf (K:=K)) T.n_isinstance A7 (Aa (pv 1) (Aa (Fo (v:=.ty "dict") rfl T.n_dict Dl rfl) Ad))))) (Ak (A8 Es)) Bd)
    (Af (Aq (i:=2) Gq.nd (Ck Ad))
    (Af (Le (B3 qc3 rfl (X8 (pv 1)) (Dj (K:=K) (n:=2) (by rfl) (Bq (A1 (i:=3) Gq.nd) (Bq (A1 (i:=4) Gq.nd) Di))) (Af (Br (PW.pt (Oq (Em (Db (Ao Ix hr (Aa (pv 3) Ad)))) (Oq (Bb P6 (pv 3) Aj (Bh _)) (Mn (Bb SG (pv 3) (As (Ar (K:=K)) T.n_len qe4 (Aa (pv 0) Ad)) (Bh _)))))) (Ak (A8 Es)) Bd)
    (Af (Br (PW.pt (Oq (Em (Db (Ao Ix hr (Aa (pv 4) Ad)))) (Mn (Bb C0 (pv 4) Aj (Bh _))))) (Ak (A8 Es)) Bd)
    (Ak (Cf (Gd (K:=K) qd5 qe1 qe0 C1 (pv 2) (Aa (Ao Cp hr (Aa (Bp (Bj (K:=K)) (pv 0) (pv 3) (fun _ _=>rfl)) Ad)) Ad))))))))
    (Ak (A8 (xJ (Fn C0 (As (Ar (K:=K)) T.n_len qe4 (Aa (pv 2) Ad)) Aj (Bh _)) (Mo (Fn C0 (As (call_minL (K:=K) (by rfl)) T.n_min kT (Aa (pv 2) Ad)) (As (kQ (K:=K) (by rfl)) T.n_max Sg (Aa (pv 2) Ad)) (Bh _))))))))),?_⟩
   rcases hT with hT|⟨rfl,b,rfl,hb⟩
   rotate_left
   . refine⟨_,rfl,_,"dict",rfl,.inr (.inr (.inr (.inr (.inr rfl)))),.inl ⟨.d (.tup []),(TI.mk (.of hb):TI K H (.ref b) []),_,rfl,?_⟩⟩;refine L7 rfl ?_;exact kq false _ (Ah.refl _) ⟨(fun z=>nomatch z),fun⟨_,_,z⟩=>nomatch (show false=true from z)⟩
   cases t with
   | data d =>
     refine⟨_,rfl,x,"dict",rfl,.inr (.inr (.inr (.inr (.inr rfl)))),.inl ⟨.d (vD x),hT.1.rep,_,rfl,?_⟩⟩;rw[Ug hT.1];refine L7 rfl ?_;exact kq false _ (Ah.refl _) ⟨(fun z=>nomatch z),fun⟨_,_,z⟩=>nomatch (show false=true from z)⟩
   | lst =>
     obtain⟨b,us,rfl,hb⟩:=hT;refine⟨_,rfl,_,"dict",rfl,.inr (.inr (.inr (.inr (.inr rfl)))),.inr (.inr ⟨b,us,rfl,hb,_,rfl,?_⟩)⟩;refine L7 (by decide) ?_;exact kq false _ (Ah.refl _) ⟨(fun z=>nomatch z),fun⟨_,_,z⟩=>nomatch (show false=true from z)⟩
   | odd kvs =>
     obtain⟨b,rfl,hOd,hm,hv⟩:=hT;have hpl:kvs=[(.bl true,.int 1)]:=hpl;subst hpl;refine⟨_,rfl,_,"dict",rfl,.inr (.inr (.inr (.inr (.inr rfl)))),.inr (.inl ⟨b,_,rfl,hOd,_,rfl,?_⟩)⟩;refine Fx (by decide) ?_;refine Nv (fun σ' H'=>σ'=[rS a,rS b,none,none,none]/\H=H') ?_ fun fD=>fD _ _ ⟨rfl,rfl⟩;rintro _ _ ⟨rfl,rfl⟩;refine qt6 (fun σ' H'=>∃L:Addr,σ'=[rS a,rS b,rS L,none,none]/\Ah H H'/\H' L=some (.lst [])) (fun key=>?_) ?_
     . exact⟨qb6 _,fun L hL'=>key _ _ ⟨L,rfl,Ah.new hL',Ab⟩⟩
     rintro _ H1 ⟨L,rfl,s1,Wy⟩;refine An (fun σ' H'=>False) (fun _ _ z=>z.elim) fun key=>?_;obtain⟨hsys,ob,hXO,yJ⟩:=hOd;refine .inl ⟨_,rfl,.inr ⟨b,ob,_,rfl,hsys,s1 _ _ hXO,yJ,?_⟩⟩;refine FL (d:=b) (o:=ob) (kvs:=[(.bl true,.int 1)]) (fun i σ G=>∃o3 o4,σ=[rS a,rS b,rS L,o3,o4]/\Ah H G/\i=0) ⟨none,none,rfl,s1,rfl⟩ (fun i σ G _ ⟨_,_,_,g,_⟩=>g _ _ hXO) ?_ ?_
     . rintro i kk v σ G p hx ⟨o3,o4,rfl,g,rfl⟩ hp;cases hx;have sp:=Ah.new (o:=.tup [V.bl true,.int 1]) hp;refine⟨p,_,rfl,.of Ab,rfl,_,_,rfl,_,_,rfl,rfl,?_⟩;refine⟨_,rfl,.bl true,.bl true,rfl,rfl,_,rfl,?_⟩;refine L7 rfl ?_;exact kq false _ (g.trans sp) ⟨(fun z=>nomatch z),fun⟨_,_,z⟩=>nomatch (show false=true from z)⟩
     . rintro σ G ⟨o3,o4,rfl,g,z⟩;cases z
   | dk kvs =>
     obtain⟨b,rfl,hb,hm,hv⟩:=hT;refine⟨_,rfl,_,"dict",rfl,.inr (.inr (.inr (.inr (.inr rfl)))),.inl ⟨.dic,⟨b,kvs,rfl,.inl hb⟩,_,rfl,?_⟩⟩;refine Fx (by decide) ?_;refine Nv (fun σ' H'=>σ'=[rS a,rS b,none,none,none]/\H=H') ?_ fun fD=>fD _ _ ⟨rfl,rfl⟩;rintro _ _ ⟨rfl,rfl⟩;refine qt6 (fun σ' H'=>∃L:Addr,σ'=[rS a,rS b,rS L,none,none]/\Ah H H'/\H L=none/\H' L=some (.lst [])) (fun key=>?_) ?_
     . exact⟨qb6 _,fun L hL'=>key _ _ ⟨L,rfl,Ah.new hL',hL',Ab⟩⟩
     rintro _ H1 ⟨L,rfl,s1,nL,Wy⟩;have ZE:b≠L:=Ap hb nL;have hb1:=s1 _ _ hb;refine qt6 (fun σ' H'=>∃o3 o4,σ'=[rS a,rS b,rS L,o3,o4]/\Ah H H'/\H' L=some (.lst ((kvs.map (Xi xs)).map V.int))/\∀p∈kvs,qN xs p) (fun key=>?_) ?_
     . refine .inr ⟨b,kvs,hb1,fun hnd o=>?_⟩;refine⟨_,rfl,.inl ⟨b,o,kvs,rfl,Ab,?_⟩⟩
       have back:∀G:Hp,(∀c q,c≠b->c≠L->H1 c=some q->G c=some q)->Ah H (upd G b (.dK kvs)):=fun G h c q e=>by
        by_cases z:c=b
        . subst z;rw[hb]at e;cases e;exact Ab
        . rw[Ai z];exact h c q z (Ap e nL) (s1 _ _ e)
       refine Ei (d:=b) (o:=o) (kvs:=kvs) (fun i σ G=>∃o3 o4,σ=[rS a,rS b,rS L,o3,o4]/\G b=some (.frz o (.dK kvs))/\G L=some (.lst (((kvs.take i).map (Xi xs)).map V.int))/\(∀c q,c≠b->c≠L->H1 c=some q->G c=some q)/\LT K G (.ref a) xs/\(∀o,LT K (upd G L (.lst o)) (.ref a) xs)/\∀p∈kvs.take i,qN xs p)
        ⟨none,none,rfl,Ab,by rw[Ai ZE.symm];exact Wy,fun c q n1 n2 e=>by rw[Ai n1];exact e,?_,?_,fun p hp=>by simp at hp⟩ (fun i σ G _ ⟨_,_,_,e,_⟩=>e) ?_ ?_
       . exact Rep.x (fun c r n e=>by rw[Ai n];exact e) hb1 (Rep.same s1 hL)
       . intro o';have l1:LT K (upd H b (.frz o (.dK kvs))) (.ref a) xs:=Rep.x (fun c r n e=>by rw[Ai n];exact e) hb hL;refine Rep.same (fun c q e=>?_) l1
         have ncL:c≠L:=by
          intro z;subst z;rw[Ai ZE.symm,nL]at e;cases e
         rw[Ai ncL];by_cases z:c=b
         . subst z;rw[Ab]at e ⊢;exact e
         . rw[Ai z]at e ⊢;exact s1 _ _ e
       . rintro i kk x σ G0 p hx ⟨o3,o4,rfl,VM,RI,NT,hA0,Aj7,hok⟩ hp;have hmem:=qb5 hx;have hsx:=hv _ hmem;have hil:i<kvs.length:=(qa2.mp hx).1;have Pt:Ah G0 (upd G0 p (.tup [kV kk,x])):=Ah.new hp;refine⟨p,_,rfl,.of Ab,rfl,_,_,rfl,_,_,rfl,rfl,?_⟩;have Po:=Pt _ _ VM;have Xl:=Pt _ _ RI;have hA:=Rep.same Pt hA0;have Mc:∀c q,c≠b->c≠L->H1 c=some q->(upd G0 p (.tup [kV kk,x])) c=some q:=fun c q n1 n2 e=>Pt _ _ (NT c q n1 n2 e)
         have WO:∀o,LT K (upd (upd G0 p (.tup [kV kk,x])) L (.lst o)) (.ref a) xs:=fun o=>by
          have npL:p≠L:=fun z=>by rw[z,RI]at hp;cases hp
          have e:upd (upd G0 p (.tup [kV kk,x])) L (.lst o)=upd (upd G0 L (.lst o)) p (.tup [kV kk,x]):=by
           funext c
           by_cases e1:c=L
           . subst e1;rw[Ab,Ai npL.symm,Ab]
           . rw[Ai e1];by_cases e2:c=p
             . subst e2;rw[Ab,Ab]
             . rw[Ai e2,Ai e2,Ai e1]
          rw[e];exact Rep.same (Ah.new (by rw[Ai npL];exact hp)) (Aj7 o)
         generalize upd G0 p (.tup [kV kk,x])=G at Po Xl hA Mc WO ⊢;have no:¬qN xs (kk,x)->Q (.bl false) (upd G b (.dK kvs)):=fun h=>kq false _ (back G Mc) (xR hmem h);refine An (fun σ' H'=>σ'=[rS a,rS b,rS L,some (kV kk),some x]/\G=H'/\∃n,kk=.inl n/\0<=n/\n<(xs.length:Int)) ?_ fun Fp=>?_;rotate_left
         . refine⟨_,rfl,kV kk,vD (kV kk),rfl,(gJ kk).rep,_,rfl,?_⟩;cases kk with
           | inr w =>
             refine L7 rfl ?_;exact⟨Po,no fun⟨_,_,z,_⟩=>by cases z⟩
           | inl n =>
             refine Fx (fun z=>nomatch (show false=true from z)) ?_;refine⟨_,rfl,_,_,rfl,rfl,_,rfl,?_⟩;refine ite2 (fun h1=>?_) (fun h1=>?_)
             . refine L7 rfl ?_;have RJ:n<0:=by simpa using h1
               exact⟨Po,no fun⟨_,_,z,z0,_⟩=>by cases z;omega⟩
             obtain⟨us,YA,ZH⟩:=LT.len hA;refine⟨_,rfl,_,rfl,a,us,rfl,.inl YA,_,_,rfl,rfl,_,rfl,?_⟩;rw[ZH];have h0:0<=n:=by simpa using h1
             refine ite2 (fun h2=>?_) (fun h2=>?_)
             . have h2':(xs.length:Int)<=n:=by simpa using h2
               exact⟨Po,no fun⟨_,_,z,_,z1,_⟩=>by cases z;omega⟩
             . exact Fp _ _ ⟨rfl,rfl,n,rfl,h0,by simpa using h2⟩
         rintro _ _ ⟨rfl,rfl,n,rfl,n0,n1⟩;refine An (fun σ' H'=>σ'=[rS a,rS b,rS L,iS n,some x]/\G=H'/\qN xs (.inl n,x)) ?_ fun Fp=>?_;rotate_left
         . refine⟨_,rfl,x,vD x,rfl,hsx.rep,_,rfl,?_⟩;cases hw:D3 (vD x) with
           | false =>
             refine L7 rfl ?_;refine L7 rfl ?_;refine⟨Po,no fun _z=>?_⟩;obtain⟨_,m,z,_⟩:=_z;cases z;exact nomatch (show true=false from hw)
           | true =>
             refine Fx (by decide) ?_;obtain⟨y,hy⟩:=Xx hw
             obtain rfl:x=.int y:=by
              cases x<;>first | exact hsx.elim | cases hy
              rfl
             refine⟨_,rfl,rfl,_,rfl,?_⟩;refine ite2 (fun h6=>?_) (fun h6=>?_)
             . have h7:y=0:=by simpa using h6
               exact⟨Po,no fun⟨_,m,z,_,_,zz⟩=>by cases z;exact zz h7⟩
             . have h7:¬y=0:=by simpa using h6
               exact Fp _ _ ⟨rfl,rfl,n,y,rfl,n0,n1,h7⟩
         rintro _ _ ⟨rfl,rfl,Af0⟩;obtain⟨us2,v2,Ae2,NV,ZX⟩:=LT.get hA n0 n1;refine⟨_,rfl,.inl ⟨rfl,_,.of Xl⟩,_,rfl,_,rfl,a,us2,_,_,rfl,rfl,Ae2,NV,v2,B7 (xs.getD n.toNat []),rfl,.inr ZX,L,_,_,rfl,rfl,Xl,Cb (by rw[qa3,qa3,qc4];omega),?_⟩;rw[show(B7 (xs.getD n.toNat [])).length=(xs.getD n.toNat []).length from qa3 ..];have etk:kvs.take (i+1)=kvs.take i++[(.inl n,x)]:=by rw[qf0,hx];rfl
         refine⟨_,_,rfl,by rw[Ai ZE];exact Po,?_,fun c q m1 m2 e=>by rw[Ai m2];exact Mc c q m1 m2 e,WO _,fun o'=>?_,fun q hq=>?_⟩
         . rw[Ab,etk,qb1,qb1];rfl
         . have:upd (upd G L (.lst (((kvs.take i).map (Xi xs)).map V.int++[.int (Ca (xs.getD n.toNat []).length)]))) L (.lst o')=upd G L (.lst o'):=by
            funext c
            by_cases e1:c=L
            . subst e1;rw[Ab,Ab]
            . rw[Ai e1,Ai e1,Ai e1]
           rw[this];exact WO o'
         . rw[etk]at hq;rcases qd6.mp hq with z | z
           . exact hok q z
           . rw[qb7.mp z];exact Af0
       . rintro σ G ⟨o3,o4,rfl,Po,Xl,Mc,hA,WO,hok⟩;rw[qb9]at Xl hok;exact⟨Po,key _ _ ⟨o3,o4,rfl,back G Mc,by rw[Ai ZE.symm];exact Xl,hok⟩⟩
     rintro _ G ⟨o3,o4,rfl,s,Xl,hok⟩;have fin:∀c:Bool,(c=true↔∃k:Nat,k<4/\∀p∈kvs,Xi xs p=(k:Int))->Q (.bl c) G:=fun c hc=>kq c G s (hc.trans ⟨fun⟨k,a,h⟩=>⟨k,a,(oV hok k).mpr h⟩,fun⟨k,a,h⟩=>⟨k,a,(oV hok k).mp h⟩⟩);refine⟨_,rfl,L,_,rfl,.inl (.of Xl),rfl,_,rfl,?_⟩;rw[qa3,qa3];refine ite2 (fun h1=>?_) (fun h1=>?_)
     . have hz:kvs.length=0:=by
        have:(kvs.length:Int)=0:=by simpa using h1
        omega
       have hz2:=qp1.mp hz;refine fin true ⟨fun _=>⟨0,by decide,fun p hp=>?_⟩,fun _=>rfl⟩;rw[hz2]at hp;cases hp
     have hne:kvs.map (Xi xs)≠[]:=fun z=>h1 (by
      have:=congrArg List.length z;rw[qa3,qf7]at this;rw[this];rfl)
     refine⟨_,rfl,L,_,rfl,.of Xl,hne,fun lo lo1 lo2=>⟨_,rfl,L,_,rfl,.of Xl,hne,fun hi hi1 hi2=>⟨rfl,?_⟩⟩⟩;refine fin _ ⟨fun z=>?_,fun⟨k,hk,hall⟩=>?_⟩
     . have e:lo=hi:=by simpa using z
       obtain⟨p0,hp0,e0⟩:=qd8.mp lo1;obtain⟨k,hk,ek⟩:=nG h4 (hok p0 hp0);refine⟨k,hk,fun p hp=>?_⟩;have a1:=lo2 _ (qg3 (f:=Xi xs) hp);have a2:=hi2 _ (qg3 (f:=Xi xs) hp);omega
     . obtain⟨p0,hp0,e0⟩:=qd8.mp lo1;obtain⟨p1,hp1,e1⟩:=qd8.mp hi1;have a1:=hall p0 hp0;have a2:=hall p1 hp1;have:lo=hi:=by omega
       rw[this];simp
abbrev B9:Stmt:=Hk 5
def Mk:FnScope ["shape","thing","level"] ["shape","thing","level"] (Al B9):=Bl
theorem Mr{f:Addr}{fd:FuncData}(F:Ft K "is_place_of_level" "is_place_of_level" B9 f fd)(T:Hi K mg Am Ax A3 A5 A0 Ag Av A2 Ba A6 Ay Aw A4 A9 Az Ae)(Gz:Has P w K mg base "is_whole_below" ["thing","bound"] 2 (Fk K))(Rv:Has P w K mg base "level_of" ["piece"] 1 (Cq K)):B4 P w K mg base Fv 3 f fd ["shape","thing","level"] (D4 K):=by
 refine F.ok Mk (fun vs H Q E h=>?_) (fun C7 A outer s H vs Q E hr h=>?_)
 . obtain⟨_,_,_,_,_,rfl,_⟩:=h;rfl
 . obtain⟨a,x,d,l,xs,rfl,hL,hx,k⟩:=h;refine⟨_,(Ak (A8 (Lf (Ao Gz hr (Aa (pv 1) (Aa (As (Ar (K:=K)) T.n_len qe4 (Aa (pv 0) Ad)) Ad))) (Mo (Fn C0 (Ao Rv hr (Aa (Bp (Bj (K:=K)) (pv 0) (pv 1) (fun _ _=>rfl)) Ad)) (pv 2) (Bh _)))))),?_⟩;obtain⟨us,hq,ZH⟩:=LT.len hL;refine⟨_,rfl,_,rfl,a,us,rfl,.inl hq,x,d,_,rfl,hx,_,rfl,?_⟩;rw[ZH];refine ite2 (fun e=>?_) (fun e=>?_)
   . obtain⟨i,rfl⟩:∃i,d=.int i:=by cases d<;>first | exact⟨_,rfl⟩ | (exfalso;simp[Wj]at e)
     cases (show x=.int i from hx);have e':(decide (0<=i)&&decide (i<(xs.length:Int)))=true:=e;have h0:0<=i/\i<(xs.length:Int):=by simpa using e'
     obtain⟨us',v,hq',hv,tv⟩:=LT.get hL h0.1 h0.2;refine⟨_,rfl,_,rfl,a,us',i,v,rfl,rfl,hq',hv,v,_,rfl,.inr tv,_,rfl,rfl,?_⟩
     have e2:B8 xs (.int i) l=decide (Ca (B7 (xs.getD i.toNat [])).length=l):=by
      show(decide (0<=i)&&decide (i<(xs.length:Int))&&decide (Ca (xs.getD i.toNat []).length=l))=_;rw[e'];simp[B7]
     rw[e2]at k
     have e3:decide (V.int (Ca (B7 (xs.getD i.toNat [])).length)=V.int l)=decide (Ca (B7 (xs.getD i.toNat [])).length=l):=by
      by_cases z:Ca (B7 (xs.getD i.toNat [])).length=l
      . simp[z]
      . simp[z]
     rw[e3];exact k
   . have e2:B8 xs d l=false:=by
      cases d with
      | int i =>
        have e':¬(decide (0<=i)&&decide (i<(xs.length:Int)))=true:=e;show(decide (0<=i)&&decide (i<(xs.length:Int))&&decide (Ca (xs.getD i.toNat []).length=l))=false;rw[qt0.mpr e'];rfl
      | _=>rfl
     rw[e2]at k;exact k
abbrev Hw:Stmt:=Hk 45
def DW:FnScope ["shape","thing"] ["shape","thing"] (Al Hw):=Bl
def EF{f:Addr}{fd:FuncData}(F:Ft K "is_bent" "is_bent" Hw f fd)(T:Hi K mg Am Ax A3 A5 A0 Ag Av A2 Ba A6 Ay Aw A4 A9 Az Ae)(Vj:Has P w K mg base "bent" ["shape"] 2 (Tp K))(Eh:Has P w K mg base "is_whole" ["thing"] 1 (E6 K)):B4 P w K mg base Fv 3 f fd ["shape","thing"] (O1 K):=by
 refine F.ok DW (fun vs H Q E h=>?_) (fun C7 A outer s H vs Q E hr h=>?_)
 . obtain⟨_,_,_,_,rfl,_⟩:=h;rfl
 . obtain⟨a,v,ys,p,rfl,hL,hyl,h4,hv,hpl,k⟩:=h;have Gv:=hr.u8
   refine⟨_,(Af (Br (PW.pt (Oq (Em (Db (As (Fq (K:=K)) T.n_isinstance A7 (Aa (pv 1) (Aa (Fo (v:=.ty "tuple") rfl T.n_tuple Fi rfl) Ad))))) (Mn (Em (Db (As (Vb (K:=K) (by rfl)) T.n_all Zb (Aa (Du (N':=["place"]) (cap:=[none]) (by rfl) (by kernel_rfl) (N7 (K:=K) (pv 1)) (fun _ _ _ _=>(A1 (i:=0) XT)) (fun _ _ _ _=>C4) (fun _ _ _ _=>(Ao Eh hr (Aa (pv 0) Ad)))) Ad))))))) (Ak (A8 Es)) Bd)
    (Ak (A8 (Fn (GS (K:=K) Gv) (pv 1) (Ao Vj hr (Aa (pv 0) Ad)) rfl)))),?_⟩
   obtain⟨ap,rfl,XD⟩:=TI.sq hv;refine⟨_,rfl,_,_,tI p,rfl,.inr (.inr (.inr (.inl rfl))),hv,_,rfl,?_⟩;refine Fx (by simp[FJ,tI]) ?_;refine⟨_,rfl,ap,rfl,⟨_,XD⟩,fun D hD=>?_⟩
   refine Oc (K:=K) (a:=ap) (xs:=p.map V.int) (fun i ws τ G=>Ah H G/\G D=some (.lst ws)/\ws=((p.take i).map fun _=>true).map V.bl/\∃o,τ=[o])
    ⟨Ah.new hD,Ab,rfl,none,rfl⟩ (fun i ws τ G _ ⟨g,_⟩=>g.seqT XD) ?_ ?_
   . rintro i y ws τ G hy ⟨g,Cd,hws,o,rfl⟩;have hi:i<p.length:=by have:=(qa2.mp hy).1;simpa using this
     have RB:y=.int p[i]:=by
      rw[qa7,qa0 hi]at hy;simpa using hy.symm
     subst RB;refine⟨_,rfl,_,.int p[i],rfl,rfl,Cd,Cb (by rw[hws,qa3,qa3,qc4];omega),g.turn hD,Ab,?_,_,rfl⟩;rw[qf1,qa0 hi,qb1,qb1,hws];rfl
   . rintro ws τ G ⟨g,Cd,hws,_⟩;rw[qa3,qb9]at hws;refine⟨D,p.map fun _=>true,rfl,.of (by rw[Cd,hws]),_,rfl,?_⟩;refine Fx (by simp) ?_;refine⟨_,rfl,_,rfl,a,ys,rfl,Rep.same g hL,hyl,h4,fun F fu G2 hF g2 yL rF=>?_⟩;have gg:=g.trans g2;refine⟨tI p,(Fs ys).map tI,qn2 gg hv,.inl ⟨F,fu,rfl,.of yL,rF⟩,(by have:=Kq (Fs ys);omega),?_⟩;rw[if_neg (by simp),QY];exact k _ gg
abbrev Ki:Stmt:=Hk 56
def F4:FnScope ["_law_pieces","_law_cell","_law_level_here","_law_faces","_law_j","_law_meet"] ["_law_pieces","_law_cell"] (Al Ki):=Bl
def iZ{f:Addr}{fd:FuncData}(F:Ft K "_law_next" "_law_next" Ki f fd)(T:Hi K mg Am Ax A3 A5 A0 Ag Av A2 Ba A6 Ay Aw A4 A9 Az Ae)(q9:Has P w K mg base "_law_side" ["_law_pieces","_law_cell"] 2 (Q3 K))(Km:Has P w K mg base "_law_meets" ["_law_pieces","_law_faces","_law_face"] 1 (Nw K))(C9:Has P w K mg base "_law_pick" ["_law_cell","_law_j","_law_many"] 1 (F1 K))(Cp:Has P w K mg base "_law_level" ["_law_piece"] 1 (Cq K)):B4 P w K mg base Fv 3 f fd ["_law_pieces","_law_cell"] (Q5 K):=by
 refine F.ok F4 (fun vs H Q E h=>?_) (fun C7 A outer s H vs Q E hr h=>?_)
 . obtain⟨_,_,_,rfl,_⟩:=h;rfl
 . obtain⟨a,xs,c,rfl,hL,hC,Xk,k⟩:=h
   refine⟨_,(Af (Aq (i:=2) F4.nd (PEw.h (qH (K:=K) (MJ (ns:=[0,1,1,2,1,2,3,2]) (by kernel_rfl)) (Bg B5 (pv 1) Aj) (fun _ _=>rfl))))
    (Af (Aq (i:=3) F4.nd (Ch Ad))
    (Af (Br (Bb C0 (pv 2) Aj (Bh _)) (Ak (A8 (Ch Ad))) Bd)
    (Af (B3 qc3 rfl (B1 (by rfl) T.n_range (Aa (Bg Dq (pv 2) Aj) Ad)) (A1 (i:=4) F4.nd) (Af (Hq (N':=["_law_face","_law_pieces","_law_level_here"]) (cap:=[none,some 0,some 2]) (i:=5) F4.nd (by rfl) (by first | exact Or.inl rfl | exact Or.inr rfl) (by rfl) (by kernel_rfl) (B1 (by rfl) T.n_range (Aa (As (Ar (K:=K)) T.n_len qe4 (Aa (pv 0) Ad)) Ad)) (fun _ _ _ _=>(A1 (i:=0) uV)) (fun _ _ _ _=>(N3 (Bb C0 (Bg Dq (Ao Cp hr (Aa (Bp (Bj (K:=K)) (pv 1) (pv 0) (fun _ _=>rfl)) Ad)) Aj) (pv 2) (Bh _)))) (fun _ _ _ _=>(pv 0)))
    (Af (Hq (N':=["_law_face","_law_pieces","_law_faces"]) (cap:=[none,some 0,some 3]) (i:=5) F4.nd (by rfl) (by first | exact Or.inl rfl | exact Or.inr rfl) (by rfl) (by kernel_rfl) (Co (K:=K) (pv 5)) (fun _ _ _ _=>(A1 (i:=0) uW)) (fun _ _ _ _=>(N3 (Db (Ao Km hr (Aa (pv 1) (Aa (pv 2) (Aa (pv 0) Ad))))))) (fun _ _ _ _=>(pv 0)))
    (Af (Br (Bb C0 (As (Ar (K:=K)) T.n_len qe4 (Aa (pv 5) Ad)) Aj (Bh _)) (Af (Br (PW.pt (Rg (Bb Um (pv 2) Aj (Bh _)) (N2 (Bb C0 (pv 4) (pv 2) (Bh _))))) (Ak (A8 (Dc (Iw (K:=K)) (by rfl) T.n_tuple Fi (Aa (Du (N':=["_law_face","_law_pieces","_law_j"]) (cap:=[none,some 0,some 4]) (by rfl) (by kernel_rfl) (N7 (K:=K) (pv 3)) (fun _ _ _ _=>(A1 (i:=0) XS)) (fun _ _ _ _=>C4) (fun _ _ _ _=>(Bp (Bx (K:=K)) (Bp (Bj (K:=K)) (pv 1) (pv 0) (fun _ _=>rfl)) (Bg Mq (pv 2) Aj) (fun _ _=>rfl)))) Ad)))) Bd)
    (Ak (A8 (Ao q9 hr (Aa (pv 0) (Aa (pv 1) Ad)))))) Bd)
    (Ak (Aq (i:=3) F4.nd (Bg (M4 (K:=K)) (pv 3) (Ch (Aa (Bp (Bj (K:=K)) (pv 5) (Ao C9 hr (Aa (pv 1) (Aa (pv 4) (Aa (As (Ar (K:=K)) T.n_len qe4 (Aa (pv 5) Ad)) Ad)))) (fun _ _=>rfl)) Ad)))))))))
    (Ak (A8 (pv 3))))))),?_⟩
   obtain⟨us,hq,ul⟩:=LT.len hL;have p8:(0:Int)<8:=by decide
   have c0:=qh0 c (show(8:Int)≠0 by decide);have c1:=qf2 c p8;refine qt6 (fun σ' H'=>∃lh:Int,σ'=[rS a,iS c,iS lh,none,none,none]/\Ah H H'/\0<=lh/\lh<=3) (fun key=>?_) ?_
   . refine⟨Bk (by simp),fun T1 hT1=>?_⟩
     obtain⟨x,hx,x0,x1⟩:∃x,Pp (([0,1,1,2,1,2,3,2]:List Int).map V.int) (c%8)=some (.int x)/\0<=x/\x<=3:=by
      rcases (show c%8=0\/c%8=1\/c%8=2\/c%8=3\/c%8=4\/c%8=5\/c%8=6\/c%8=7 by omega) with e | e | e | e | e | e | e | e<;>rw[e]<;>exact⟨_,rfl,by decide,by decide⟩
     refine⟨_,rfl,_,_,rfl,rfl,p8,T1,_,_,_,rfl,rfl,.of Ab,hx,?_⟩;exact key _ _ ⟨x,rfl,Ah.new hT1,x0,x1⟩
   rintro _ H1 ⟨lh,rfl,s1,l0,l3⟩;refine qt6 (fun σ' H'=>∃F0:Addr,σ'=[rS a,iS c,iS lh,rS F0,none,none]/\Ah H H'/\H' F0=some (.tup [])) (fun key=>?_) ?_
   . refine⟨qb6 _,fun F0 hF0=>?_⟩;exact key _ _ ⟨F0,rfl,s1.trans (Ah.new hF0),Ab⟩
   rintro _ H2 ⟨F0,rfl,s2,hF0⟩;refine qt6 (fun σ' H'=>σ'=[rS a,iS c,iS lh,rS F0,none,none]/\H2=H'/\¬lh=0) (fun key=>?_) ?_
   . refine⟨_,rfl,rfl,_,rfl,?_⟩;refine ite2 (fun _=>?_) (fun h=>key _ _ ⟨rfl,rfl,by simpa using h⟩);refine⟨qb6 _,fun T1 hT1=>?_⟩;exact k (.ref T1) [] _ (s2.trans (Ah.new hT1)) (TI.mk (.of Ab))
   rintro _ _ ⟨rfl,rfl,hl0⟩;refine⟨_,rfl,_,_,rfl,rfl,_,rfl,by omega,by omega,?_⟩
   refine C3 (lo:=0) (n:=(lh+1).toNat) (fun j σ G=>∃(v:V) (fs:List Int) (o4 o5:Option V),σ=[rS a,iS c,iS lh,some v,o4,o5]/\Ah H G/\TI K G v fs/\fs.length=j/\(∀x∈fs,0<=x/\x<(xs.length:Int)/\Ca (xs.getD x.toNat []).length+1=lh))
    ⟨.ref F0,[],none,none,rfl,s2,TI.mk (.of hF0),rfl,fun x hx=>by cases hx⟩ ?_ ?_
   . rintro j σ G hj ⟨v,fs,o4,o5,rfl,g,tv,hfl,hfs⟩;rw[show(0:Int)+(j:Int)=(j:Int) by omega];have hjl:(j:Int)<=lh:=by omega
     refine qt6 (fun σ' H'=>∃(M:Addr) (ms:List Int),σ'=[rS a,iS c,iS lh,some v,some (.int (j:Int)),rS M]/\Ah G H'/\H' M=some (.lst (ms.map V.int))/\ms.length<=1000/\∀x∈ms,0<=x/\x<(xs.length:Int)/\Ca (xs.getD x.toNat []).length+1=lh) (fun key=>?_) ?_
     . refine⟨_,rfl,a,us,rfl,.inl (g.seq hq),_,rfl,by omega,by omega,fun D hD=>?_⟩
       refine Gj (fun i ys τ G1=>Ah G G1/\G1 D=some (.lst ys)/\(∃ms:List Int,ys=ms.map V.int/\ms.length<=i/\∀x∈ms,0<=x/\x<(xs.length:Int)/\Ca (xs.getD x.toNat []).length+1=lh)/\∃o,τ=[o,rS a,iS lh])
        ⟨Ah.new hD,Ab,⟨[],rfl,qa8 _,fun x hx=>(by cases hx)⟩,none,rfl⟩ ?_ ?_
       . rintro i ys τ G1 hi ⟨g1,Cd,⟨ms,rfl,hml,hms⟩,o,rfl⟩;rw[show(0:Int)+(i:Int)=(i:Int) by omega];have hi2:i<xs.length:=by omega
         obtain⟨u1,v1,hu1,rS,lD⟩:=LT.get (i:=(i:Int)) (Rep.same (g.trans g1) hL) (by omega) (by omega);refine⟨_,rfl,_,rfl,a,u1,_,v1,rfl,rfl,hu1,rS,v1,B7 _,rfl,.inr lD,_,_,rfl,rfl,_,rfl,rfl,_,rfl,?_⟩;rw[show(B7 (xs.getD ((i:Int)).toNat [])).length=(xs.getD ((i:Int)).toNat []).length from qa3 ..];refine ite2 (fun h1=>?_) (fun h1=>?_)
         . have e:Ca (xs.getD ((i:Int)).toNat []).length+1=lh:=by
            by_cases z:Ca (xs.getD ((i:Int)).toNat []).length+1=lh
            . exact z
            . exact absurd h1 (noI z)
           refine⟨_,rfl,Cd,Cb (by rw[qa3];omega),g1.turn hD,Ab,⟨ms++[(i:Int)],by simp,by simp;omega,fun x hx=>?_⟩,_,rfl⟩;rcases qd6.mp hx with z | z
           . exact hms x z
           . rw[qb7]at z;subst z;exact⟨by omega,by omega,e⟩
         . exact⟨g1,Cd,⟨ms,rfl,by omega,hms⟩,_,rfl⟩
       . rintro ys τ G1 ⟨g1,Cd,⟨ms,rfl,hml,hms⟩,_⟩;exact key _ _ ⟨D,ms,rfl,g1,Cd,by omega,hms⟩
     rintro _ G1 ⟨M1,ms1,rfl,g1,aJ,A23,Af8⟩;have lD:=qn2 g1 tv;have gg1:=g.trans g1;refine qt6 (fun σ' H'=>∃(M:Addr) (ms:List Int),σ'=[rS a,iS c,iS lh,some v,some (.int (j:Int)),rS M]/\Ah G1 H'/\H' M=some (.lst (ms.map V.int))/\ms.length<=1000/\∀x∈ms,0<=x/\x<(xs.length:Int)/\Ca (xs.getD x.toNat []).length+1=lh) (fun key=>?_) ?_
     . refine⟨_,rfl,M1,rfl,⟨_,.of aJ⟩,fun D hD=>?_⟩
       refine Yz (K:=K) (a:=M1) (xs:=ms1.map V.int) (fun i ys τ G2=>Ah G1 G2/\G2 D=some (.lst ys)/\(∃ms:List Int,ys=ms.map V.int/\ms.length<=i/\∀x∈ms,0<=x/\x<(xs.length:Int)/\Ca (xs.getD x.toNat []).length+1=lh)/\∃o,τ=[o,rS a,some v])
        ⟨Ah.new hD,Ab,⟨[],rfl,qa8 _,fun x hx=>(by cases hx)⟩,none,rfl⟩ (fun i ys τ G2 _ ⟨g2,_⟩=>.of (g2 _ _ aJ)) ?_ ?_
       . rintro i y ys τ G2 hy ⟨g2,Cd,⟨ms,rfl,hml,hms⟩,o,rfl⟩;have hi:i<ms1.length:=by have:=(qa2.mp hy).1;simpa using this
         have RB:y=.int ms1[i]:=by
          rw[qa7,qa0 hi]at hy;simpa using hy.symm
         subst RB;obtain⟨x0,x1,x2⟩:=Af8 _ (qc7 hi);generalize ms1[i]=x at x0 x1 x2;refine⟨_,rfl,_,rfl,_,rfl,a,v,xs,fs,x,rfl,Rep.same (gg1.trans g2) hL,qn2 g2 lD,x0,x1,fun y hy=>⟨(hfs y hy).1,(hfs y hy).2.1⟩,by omega,(by
         have hcx:=hC.at x0 x1;rw[Ey]at x2;by_cases hz:(xs.getD x.toNat []).length=0
         . exact .inl hz
         . refine .inr ⟨by omega,fun y hy=>?_⟩;obtain⟨y0,y1,y2⟩:=hfs y hy;have hcy:=hC.at y0 y1;rw[Ey]at y2;omega),?_⟩
         refine⟨_,rfl,?_⟩;refine ite2 (fun h1=>?_) (fun h1=>?_)
         . refine⟨_,rfl,Cd,Cb (by rw[qa3];omega),g2.turn hD,Ab,⟨ms++[x],by simp,by simp;omega,fun y hy=>?_⟩,_,rfl⟩;rcases qd6.mp hy with z | z
           . exact hms y z
           . rw[qb7]at z;subst z;exact⟨x0,x1,x2⟩
         . exact⟨g2,Cd,⟨ms,rfl,by omega,hms⟩,_,rfl⟩
       . rintro ys τ G2 ⟨g2,Cd,⟨ms,rfl,hml,hms⟩,_⟩;rw[qa3]at hml;exact key _ _ ⟨D,ms,rfl,g2,Cd,by omega,hms⟩
     rintro _ G2 ⟨M,ms,rfl,g2,hM,hml,hms⟩;have gg:=gg1.trans g2;have ZX:=qn2 g2 lD;have me:(ms.map V.int).length=ms.length:=qa3 ..;obtain⟨af,rfl,tX⟩:=TI.sq ZX;refine qt6 (fun σ' H'=>σ'=[rS a,iS c,iS lh,rS af,some (.int (j:Int)),rS M]/\G2=H'/\0<(ms.length:Int)) (fun key=>?_) ?_
     . refine⟨_,rfl,M,_,rfl,.inl (.of hM),rfl,_,rfl,?_⟩;rw[me];refine ite2 (fun h1=>?_) (fun h1=>?_);rotate_left
       . have:¬ms.length=0:=fun z=>h1 (by rw[z];rfl);exact key _ _ ⟨rfl,rfl,by omega⟩
       refine⟨_,rfl,_,_,rfl,rfl,_,rfl,?_⟩;refine ite2 (fun h2=>?_) (fun h2=>?_);rotate_left
       . refine Fx (by simp) ?_;exact⟨_,rfl,_,rfl,a,xs,c,rfl,Rep.same gg hL,Xk,fun w p H' s' tw=>k w p H' (gg.trans s') tw⟩
       refine⟨_,rfl,_,rfl,rfl,_,rfl,?_⟩;refine ite2 (fun h3=>?_) (fun h3=>?_);rotate_left
       . exact⟨_,rfl,_,rfl,a,xs,c,rfl,Rep.same gg hL,Xk,fun w p H' s' tw=>k w p H' (gg.trans s') tw⟩
       have hlh:1<lh:=by simpa using h2
       have hje:(j:Int)=lh:=by simpa using h3
       refine⟨_,rfl,af,rfl,⟨_,tX⟩,fun D hD=>?_⟩
       refine Oc (K:=K) (a:=af) (xs:=fs.map V.int) (fun i ys τ G3=>Ah G2 G3/\G3 D=some (.lst ys)/\(∃ps:List Int,ys=ps.map V.int/\ps.length<=i)/\∃o,τ=[o,rS a,some (.int (j:Int))])
        ⟨Ah.new hD,Ab,⟨[],rfl,qa8 _⟩,none,rfl⟩ (fun i ys τ G3 _ ⟨g3,_⟩=>g3.seqT tX) ?_ ?_
       . rintro i y ys τ G3 hy ⟨g3,Cd,⟨ps,rfl,hpl⟩,o,rfl⟩;have hi:i<fs.length:=by have:=(qa2.mp hy).1;simpa using this
         have RB:y=.int fs[i]:=by
          rw[qa7,qa0 hi]at hy;simpa using hy.symm
         subst RB;obtain⟨x0,x1,x2⟩:=hfs _ (qc7 hi);generalize fs[i]=x at x0 x1 x2;have hcx:=hC.at x0 x1;rw[Ey]at x2;obtain⟨u1,v1,hu1,rS,zY⟩:=LT.get (Rep.same (gg.trans g3) hL) x0 x1;obtain⟨b1,rfl,hb1⟩:=zY.sq;refine⟨_,rfl,_,rfl,a,u1,_,_,rfl,rfl,hu1,rS,_,rfl,_,_,rfl,rfl,b1,_,_,_,rfl,rfl,hb1,Hh (by omega) (by omega),Cd,Cb (by rw[qa3];omega),g3.turn hD,Ab,⟨ps++[_],by rw[qb1];rfl,by simp;omega⟩,_,rfl⟩
       . rintro ys τ G3 ⟨g3,Cd,⟨ps,rfl,hpl⟩,_⟩;refine⟨D,_,rfl,.inl ⟨.of Cd,fun T1 hT1=>?_⟩⟩;exact k (.ref T1) ps _ ((gg.trans g3).trans (Ah.new hT1)) (TI.mk (.of Ab))
     rintro _ _ ⟨rfl,rfl,hpos⟩;refine⟨_,rfl,_,rfl,_,rfl,_,rfl,_,rfl,M,_,rfl,.inl (.of hM),_,_,_,rfl,by rw[me];exact hpos,fun r G4 g4 r0 r1=>?_⟩;rw[me]at r1;have hmm:ms.getD r.toNat 0∈ms:=Bz (by omega);have hmr:=hms _ hmm;refine⟨M,_,_,_,rfl,rfl,.of (g4 _ _ hM),Hh r0 r1,Bk (by simp),fun pt RD=>?_⟩;generalize ms.getD r.toNat 0=q at hmr;have s3:Ah G4 (upd G4 pt (.tup [.int q])):=Ah.new RD;refine⟨af,pt,_,_,rfl,rfl,(g4.trans s3).seqT tX,.of Ab,Bk (by simp;omega),fun p3 H3 s4 q3=>?_⟩;refine⟨.ref p3,fs++[q],_,_,rfl,((gg.trans g4).trans s3).trans s4,TI.mk ?_,by simp[hfl],fun x hx=>?_⟩
     . rw[qb1];exact q3
     . rcases qd6.mp hx with z | z
       . exact hfs x z
       . rw[qb7]at z;subst z;exact hmr
   . rintro σ G ⟨v,fs,o4,o5,rfl,g,tv,hfl,hfs⟩;exact⟨_,rfl,k v fs G g tv⟩
abbrev Eb:Stmt:=Hk 60
def Cr:FnScope ["_law_kind","_law_cells","_law_most","_law_family","_law_words","_law_cell","_law_more"] ["_law_kind","_law_cells","_law_most"] (Al Eb):=Bl
def Xa{f:Addr}{fd:FuncData}(F:Ft K "_law_shape_by" "_law_shape_by" Eb f fd)(T:Hi K mg Am Ax A3 A5 A0 Ag Av A2 Ba A6 Ay Aw A4 A9 Az Ae)(J2:Has P w K mg base "_law_words_with" ["_law_words","_law_word","_law_family"] 2 (Gy K))(O9:Has P w K mg base "_law_word_by" ["_law_cell","_law_family","_law_letters"] 1 (K5 K))(Fg:Has P w K mg base "_law_faces_by" ["_law_word","_law_family"] 1 (Gn K)):B4 P w K mg base Fv 3 f fd ["_law_kind","_law_cells","_law_most"] (Mi K):=by
 refine F.ok Cr (fun vs H Q E h=>?_) (fun C7 A outer s H vs Q E hr h=>?_)
 . obtain⟨_,_,_,_,rfl,_⟩:=h;rfl
 . obtain⟨a,ns,kind,most,rfl,hS,hl,hm0,hm1,k⟩:=h;have Gv:=hr.u8
   refine⟨_,(Af (Aq (i:=3) Cr.nd Aj)
    (Af (Br (Bb C0 (Bg B5 (pv 0) Aj) Aj (Bh _)) (Ak (Aq (i:=3) Cr.nd (X9 Qw Aj))) Bd)
    (Af (Br (Bb C0 (Bg B5 (pv 0) Aj) Aj (Bh _)) (Ak (Aq (i:=3) Cr.nd (Bg Dq Aj (Bg B5 (Bg Ex (pv 0) Aj) Aj)))) Bd)
    (Af (Aq (i:=4) Cr.nd (Ck Ad))
    (Af (B3 qc3 rfl (Co (K:=K) (pv 1)) (A1 (i:=5) Cr.nd) (Af (Aq (i:=6) Cr.nd (Ao J2 hr (Aa (pv 4) (Aa (Ao O9 hr (Aa (pv 5) (Aa (pv 3) (Aa (Bg Dq Aj (Bg B5 (Bg Ex (pv 0) Aj) Aj)) Ad)))) (Aa (pv 3) Ad)))))
    (Ak (Br (Bb sF (As (Ar (K:=K)) T.n_len qe4 (Aa (pv 6) Ad)) (pv 2) (Bh _)) (Ak (Aq (i:=4) Cr.nd (pv 6))) Bd))))
    (Ak (A8 (Du (N':=["_law_word","_law_family","_law_words"]) (cap:=[none,some 3,some 4]) (by rfl) (by kernel_rfl) (Co (K:=K) (pv 4)) (fun _ _ _ _=>(A1 (i:=0) UT)) (fun _ _ _ _=>C4) (fun _ _ _ _=>(Dc (Iw (K:=K)) (by rfl) T.n_tuple Fi (Aa (Du (N':=["_law_face","_law_words"]) (cap:=[none,some 2]) (by rfl) (by kernel_rfl) (Co (K:=K) (Ao Fg hr (Aa (pv 0) (Aa (pv 1) Ad)))) (fun _ _ _ _=>(A1 (i:=0) uT)) (fun _ _ _ _=>C4) (fun _ _ _ _=>(Gd (K:=K) qd5 PySem.F.slot_list_index PySem.F.type_list_index (jN (K:=K) Gv) (pv 1) (Aa (pv 0) Ad)))) Ad))))))))))),?_⟩
   refine Nv (fun σ' H'=>σ'=[iS kind,rS a,iS most,iS 0,none,none,none]/\H=H') ?_ fun fD=>fD _ _ ⟨rfl,rfl⟩;rintro _ _ ⟨rfl,rfl⟩;refine An (fun σ' H'=>∃fam:Int,σ'=[iS kind,rS a,iS most,iS fam,none,none,none]/\H=H'/\fam<100) ?_ fun xX=>?_;rotate_left
   . refine⟨_,rfl,_,_,rfl,rfl,(by show(0:Int)<3;decide),rfl,_,rfl,?_⟩;refine ite2 (fun _=>?_) (fun _=>?_)
     . exact⟨_,rfl,xX _ _ ⟨-1,rfl,rfl,by decide⟩⟩
     . exact xX _ _ ⟨0,rfl,rfl,by decide⟩
   rintro _ _ ⟨Ak9,rfl,rfl,hf0⟩;refine An (fun σ' H'=>∃fam:Int,σ'=[iS kind,rS a,iS most,iS fam,none,none,none]/\H=H'/\fam<100) ?_ fun Fp=>?_;rotate_left
   . refine⟨_,rfl,_,_,rfl,rfl,(by show(0:Int)<3;decide),rfl,_,rfl,?_⟩;refine ite2 (fun _=>?_) (fun _=>?_)
     . refine⟨_,rfl,_,_,rfl,rfl,⟨by decide,by decide⟩,_,_,rfl,rfl,(by show(0:Int)<19;decide),_,_,rfl,rfl,Fp _ _ ⟨_,rfl,rfl,?_⟩⟩;have:kind / 18%19<19:=qf2 _ (by decide);omega
     . exact Fp _ _ ⟨Ak9,rfl,rfl,hf0⟩
   rintro _ _ ⟨fam,rfl,rfl,hf⟩;have l1:0<=kind / 3%6:=qh0 _ (by decide);have l2:kind / 3%6<6:=qf2 _ (by decide);refine⟨qb6 _,fun W0 YH=>?_⟩;have s0:Ah H (upd H W0 (.lst [])):=Ah.new YH
   refine⟨_,rfl,a,rfl,⟨_,s0.seq hS⟩,for_list (K:=K) (a:=a) (xs:=ns.map V.int)
    (fun j σ H2=>∃(W:Addr) (wu:List V) (ws:LLInt) (o5 o6:Option V),σ=[iS kind,rS a,iS most,iS fam,rS W,o5,o6]/\Ah H H2/\H W=none/\H2 W=some (.lst wu) ∧
      Reps K H2 wu (ws.map tI)/\HN fam ws/\(ws.length:Int)<=most)
    ⟨W0,[],[],none,none,rfl,s0,YH,Ab,rfl,HN.nil,by simpa using hm0⟩ (fun j σ H2 _ ⟨_,_,_,_,_,_,s2,_⟩=>s2.seq hS) ?_ ?_⟩
   . rintro j x σ H2 hx ⟨W,wu,ws,o5,o6,rfl,s2,hW,vO,rW,hO,hwl⟩;have hjn:j<ns.length:=by have:=(qa2.mp hx).1;simpa using this
     have hxv:x=.int ns[j]:=by
      rw[qa7,qa0 hjn]at hx;simpa using hx.symm
     subst hxv;refine⟨_,rfl,_,rfl,_,rfl,_,rfl,_,_,rfl,rfl,⟨by decide,by decide⟩,_,_,rfl,rfl,(by show(0:Int)<6;decide),_,_,rfl,rfl,?_⟩;refine⟨_,_,_,rfl,by omega,by omega,by omega,fun v H3 w s3 tv hw=>?_⟩;refine⟨_,rfl,?_⟩;refine⟨W,wu,v,ws,w,fam,rfl,s3 _ _ vO,Reps.same s3 rW,tv,hw,by omega,fun M mu H4 hM s4 vP rM=>?_⟩;have ZC:=s3.trans s4;have hMH:H M=none:=(s2.trans s3).free hM;have mul:mu.length=(Nu ws w fam).length:=by have:=rM.length;simpa using this
     refine⟨_,rfl,M,_,rfl,.inl (.of vP),_,rfl,_,_,rfl,rfl,_,rfl,?_⟩;refine ite2 (fun h1=>?_) (fun h1=>?_)
     . have h2:(mu.length:Int)<=most:=by simpa using h1
       exact⟨_,rfl,M,mu,Nu ws w fam,_,_,rfl,s2.trans ZC,hMH,vP,rM,W1 hO hw,by omega⟩
     . exact⟨W,wu,ws,_,_,rfl,s2.trans ZC,hW,ZC _ _ vO,Reps.same ZC rW,hO,hwl⟩
   . rintro σ H2 ⟨W,wu,ws,o5,o6,rfl,s2,hW,vO,rW,hO,hwl⟩;have wul:wu.length=ws.length:=by have:=rW.length;simpa using this
     refine⟨_,rfl,W,rfl,⟨_,.of vO⟩,fun D hD=>?_⟩;have hDH:H D=none:=s2.free hD
     refine Gk (K:=K) (a:=W) (xs:=wu) (fun i ys τ H1=>Ah H2 H1/\H1 D=some (.lst ys)/\Reps K H1 ys (((ws.take i).map fun w=>(Au w fam).map fun f=>(m7 ws f:Int)).map tI)/\∃o,τ=[o,iS fam,rS W])
      ⟨Ah.new hD,Ab,rfl,none,rfl⟩ (fun i ys τ H1 _ ⟨s1,_⟩=>.of (s1 _ _ vO)) ?_ ?_
     . rintro i x ys τ H1 hx ⟨s1,Fu,r1,o,rfl⟩;have hi:i<wu.length:=(qa2.mp hx).1;have hil:i<ws.length:=by omega
       have hix:(ws.map tI)[i]?=some (tI ws[i]):=by rw[qa7,qa0 hil];rfl
       obtain⟨x',hx',tx⟩:=rW.get hix;rw[hx]at hx';cases hx';obtain⟨hwi,hfi⟩:=hO.mem (qc7 hil);generalize hwe:ws[i]=w at tx hwi hfi;refine⟨_,rfl,_,rfl,x,w,fam,rfl,qn2 s1 tx,hwi,fun p fu H3 hp s3 hp3 r3=>?_⟩;have ful:fu.length=(Au w fam).length:=by have:=r3.length;simpa using this
       have DY:=s1.trans s3;refine⟨p,rfl,⟨_,.of hp3⟩,fun D2 Wz=>?_⟩
       refine Gk (K:=K) (a:=p) (xs:=fu) (fun m zs τ H4=>Ah H3 H4/\H4 D2=some (.lst zs)/\zs=((Au w fam).take m).map (fun f=>V.int (m7 ws f:Int))/\∃o,τ=[o,rS W])
        ⟨Ah.new Wz,Ab,rfl,none,rfl⟩ (fun m zs τ H4 _ ⟨s4,_⟩=>.of (s4 _ _ hp3)) ?_ ?_
       . rintro m y zs τ H4 hy ⟨s4,NW,hzs,o,rfl⟩;have hm:m<fu.length:=(qa2.mp hy).1;have YD:m<(Au w fam).length:=by omega
         have hmy:((Au w fam).map tI)[m]?=some (tI (Au w fam)[m]):=by rw[qa7,qa0 YD];rfl
         obtain⟨y',hy',ty⟩:=r3.get hmy;rw[hy]at hy';cases hy';have hfm:(Au w fam)[m]∈ws:=hfi _ (qc7 _);have X5:=DY.trans s4;have rw4:Rep K H4 (.ref W) (.lst (ws.map tI)):=⟨W,wu,rfl,.of (X5 _ _ vO),Reps.same X5 rW⟩
         have hfl:=(Ij hwi)
         have hzl:zs.length<=4:=by
          rw[hzs,qa3,qc4];have:=hfl.2;have:=hfl.1;split at this<;>omega
         refine⟨_,rfl,.inl ⟨rfl,_,.of (X5 _ _ vO)⟩,_,rfl,ws.map tI,y,tI (Au w fam)[m],m7 ws (Au w fam)[m],rfl,rw4,qn2 s4 ty,(by have:=Kq ws;omega),fN hfm,?_⟩;refine⟨NW,Cb (by omega),s4.turn Wz,Ab,?_,_,rfl⟩;rw[qf1,qa0 YD,qb1,hzs];rfl
       . rintro zs τ H4 ⟨s4,NW,hzs,_⟩;rw[ful,qb9]at hzs;have X5:=DY.trans s4;refine⟨D2,_,rfl,.inl ⟨.of NW,fun T hT=>?_⟩⟩;have s5:Ah H4 (upd H4 T (.tup zs)):=Ah.new hT;have zM:=(s3.trans (s4.trans s5)) _ _ Fu
         have t5:TI K (upd H4 T (.tup zs)) (.ref T) ((Au w fam).map fun f=>(m7 ws f:Int)):=by
          refine TI.mk (.of ?_);rw[qh9,Ab,hzs];rfl
         have hyl:ys.length=i:=by have:=r1.length;simp at this;omega
         refine⟨zM,Cb (by omega),(X5.trans s5).turn hD,Ab,?_,_,rfl⟩
         have e2:(ws.take (i+1)).map (fun w=>(Au w fam).map fun f=>(m7 ws f:Int))=(ws.take i).map (fun w=>(Au w fam).map fun f=>(m7 ws f:Int))++[(Au w fam).map fun f=>(m7 ws f:Int)]:=by
          rw[qf1,qa0 hil,hwe,qb1];rfl
         rw[e2];exact Ew zM (Reps.same (s3.trans (s4.trans s5)) r1) t5
     . rintro ys τ H1 ⟨s1,Fu,r1,_⟩;rw[wul,qb9]at r1;exact k D ys H1 (K9 ws fam) hDH (s2.trans s1) Fu r1 (W5 hO) (by unfold K9;rw[qa3];exact hwl)
abbrev Ef:Stmt:=Hk 68
def Ep:FnScope ["_law_pieces","_law_k","_law_cells","_law_spots","_law_chain","_law_cell"] ["_law_pieces","_law_k","_law_cells"] (Al Ef):=Bl
def Xe{f:Addr}{fd:FuncData}(F:Ft K "_law_chain_by" "_law_chain_by" Ef f fd)(T:Hi K mg Am Ax A3 A5 A0 Ag Av A2 Ba A6 Ay Aw A4 A9 Az Ae)(Ls:Has P w K mg base "_law_sum" ["_law_one","_law_number_here","_law_other"] 2 (Ps K))(Cp:Has P w K mg base "_law_level" ["_law_piece"] 1 (Cq K))(Ih:Has P w K mg base "_law_number" ["_law_cell"] 1 (K0 K))(C9:Has P w K mg base "_law_pick" ["_law_cell","_law_j","_law_many"] 1 (F1 K)):B4 P w K mg base Fv 3 f fd ["_law_pieces","_law_k","_law_cells"] (Ji K):=by
 refine F.ok Ep (fun vs H Q E h=>?_) (fun C7 A outer s H vs Q E hr h=>?_)
 . obtain⟨_,_,_,_,_,rfl,_⟩:=h;rfl
 . obtain⟨a,c,k,xs,ns,rfl,hL,Tj,h4,hS,hnl,kq⟩:=h
   refine⟨_,(Af (Hq (N':=["_law_place","_law_pieces","_law_k"]) (cap:=[none,some 0,some 1]) (i:=3) Ep.nd (by rfl) (by first | exact Or.inl rfl | exact Or.inr rfl) (by rfl) (by kernel_rfl) (B1 (by rfl) T.n_range (Aa (As (Ar (K:=K)) T.n_len qe4 (Aa (pv 0) Ad)) Ad)) (fun _ _ _ _=>(A1 (i:=0) MZ)) (fun _ _ _ _=>(N3 (Bb C0 (Ao Cp hr (Aa (Bp (Bj (K:=K)) (pv 1) (pv 0) (fun _ _=>rfl)) Ad)) (pv 2) (Bh _)))) (fun _ _ _ _=>(pv 0)))
    (Af (Aq (i:=4) Ep.nd Er)
    (Af (Br (Bb Um (As (Ar (K:=K)) T.n_len qe4 (Aa (pv 3) Ad)) Aj (Bh _)) (Ak (B3 qc3 rfl (Co (K:=K) (pv 2)) (A1 (i:=5) Ep.nd) (Ak (Aq (i:=4) Ep.nd (Ao Ls hr (Aa (pv 4) (Aa (Ao Ih hr (Aa (pv 5) Ad)) (Aa (Eg (Cw (Bp (Bj (K:=K)) (pv 3) (Ao C9 hr (Aa (pv 5) (Aa Aj (Aa (As (Ar (K:=K)) T.n_len qe4 (Aa (pv 3) Ad)) Ad)))) (fun _ _=>rfl)) Aj Dt) (by rfl) (by rfl) (by intro z;cases z) (qd7 rfl)) Ad)))))))) Bd)
    (Ak (A8 (pv 4)))))),?_⟩
   obtain⟨us,hq,ul⟩:=LT.len hL;refine qt6 (fun σ' H'=>∃(M:Addr) (ps:List Int),σ'=[rS a,iS k,rS c,rS M,none,none]/\Ah H H'/\H' M=some (.lst (ps.map V.int))/\ps.length<=40/\∀x∈ps,0<=x/\x<(xs.length:Int)) (fun key=>?_) ?_
   . refine⟨_,rfl,a,us,rfl,.inl hq,_,rfl,by omega,by omega,fun D hD=>?_⟩
     refine Gj (fun i ys τ G1=>Ah H G1/\G1 D=some (.lst ys)/\(∃ps:List Int,ys=ps.map V.int/\ps.length<=i/\∀x∈ps,0<=x/\x<(xs.length:Int))/\∃o,τ=[o,rS a,iS k])
      ⟨Ah.new hD,Ab,⟨[],rfl,qa8 _,fun x hx=>(by cases hx)⟩,none,rfl⟩ ?_ ?_
     . rintro i ys τ G1 hi ⟨g1,Cd,⟨ps,rfl,hml,hms⟩,o,rfl⟩;rw[show(0:Int)+(i:Int)=(i:Int) by omega];have hi2:i<xs.length:=by omega
       obtain⟨u1,v1,hu1,rS,lD⟩:=LT.get (i:=(i:Int)) (Rep.same g1 hL) (by omega) (by omega);refine⟨_,rfl,_,rfl,a,u1,_,v1,rfl,rfl,hu1,rS,v1,B7 _,rfl,.inr lD,_,rfl,rfl,_,rfl,?_⟩;refine ite2 (fun h1=>?_) (fun h1=>?_)
       . refine⟨_,rfl,Cd,Cb (by rw[qa3];omega),g1.turn hD,Ab,⟨ps++[(i:Int)],by simp,by simp;omega,fun x hx=>?_⟩,_,rfl⟩;rcases qd6.mp hx with z | z
         . exact hms x z
         . rw[qb7]at z;subst z;exact⟨by omega,by omega⟩
       . exact⟨g1,Cd,⟨ps,rfl,by omega,hms⟩,_,rfl⟩
     . rintro ys τ G1 ⟨g1,Cd,⟨ps,rfl,hml,hms⟩,_⟩;exact key _ _ ⟨D,ps,rfl,g1,Cd,by omega,hms⟩
   rintro _ H1 ⟨M,ps,rfl,s1,hM,hpl,hps⟩;refine qt6 (fun σ' H'=>∃D:Addr,σ'=[rS a,iS k,rS c,rS M,rS D,none]/\Ah H1 H'/\H1 D=none/\H' D=some (.dK (cK []))) (fun key=>?_) ?_
   . exact fun D hD=>key _ _ ⟨D,rfl,Ah.new hD,hD,Ab⟩
   rintro _ H2 ⟨D,rfl,s2,nD,hD⟩;refine qt6 (fun σ' H'=>∃(D:Addr) (ms:Ms) (o5:Option V),σ'=[rS a,iS k,rS c,rS M,rS D,o5]/\Ah H1 H'/\H1 D=none/\H' D=some (.dK (cK ms))/\nd ms/\DF xs ms/\ms.length<=4) (fun key=>?_) ?_
   . refine⟨_,rfl,M,_,rfl,.inl (.of (s2 _ _ hM)),_,_,rfl,rfl,_,rfl,?_⟩;rw[qa3];refine ite2 (fun h1=>?_) (fun h1=>key _ _ ⟨D,[],none,rfl,s2,nD,hD,qi7,fun p hp=>(by cases hp),by simp⟩);have hpos:(0:Int)<(ps.length:Int):=by simpa using h1
     have SQ:=(s1.trans s2).seq hS;refine⟨_,rfl,c,rfl,⟨_,SQ⟩,?_⟩
     refine for_list (K:=K) (a:=c) (xs:=ns.map V.int) (fun i σ G=>∃(D:Addr) (ms:Ms) (o5:Option V),σ=[rS a,iS k,rS c,rS M,rS D,o5]/\Ah H1 G/\H1 D=none/\G D=some (.dK (cK ms))/\nd ms/\DF xs ms/\ms.length<=i)
      ⟨D,[],none,rfl,s2,nD,hD,qi7,fun p hp=>(by cases hp),by simp⟩ (fun i σ G _ ⟨_,_,_,_,g,_⟩=>(s1.trans g).seq hS) ?_ ?_
     . rintro i x σ G hx ⟨D,ms,o5,rfl,g,nD,hD,hnd,Oj,hml⟩;have hil:i<ns.length:=by have:=(qa2.mp hx).1;simpa using this
       have hxv:x=.int ns[i]:=by
        rw[qa7,qa0 hil]at hx;simpa using hx.symm
       subst hxv;refine⟨_,rfl,_,rfl,ns[i],rfl,fun v hv0 hv1=>?_⟩;refine fun d hd=>?_;have sd:Ah G (upd G d (.dK [])):=Ah.new hd;have ed:upd G d (.dK []) d=some (.dK []):=Ab;generalize upd G d (.dK [])=G1 at sd ed ⊢;have hMG:H1 M=some (.lst (ps.map V.int)):=hM;have aJ:=sd _ _ (g _ _ hM);refine⟨_,rfl,_,rfl,_,rfl,M,_,rfl,.inl (.of aJ),ns[i],1,(ps.length:Int),(by rw[qa3];rfl),hpos,fun r G2 g2 r0 r1=>?_⟩;obtain⟨r',rfl⟩:=qj5 r0;have hr':r'<ps.length:=by omega
       have hin:=hps _ (qc7 hr');have hat:Pp (ps.map V.int) (r':Int)=some (.int ps[r']):=Dw (by rw[qa7,qa0 hr'];rfl);refine⟨M,_,_,_,rfl,rfl,.of (g2 _ _ aJ),hat,g2 _ _ ed,[(.inl ps[r'],.int 1)],rfl,by simp,?_⟩;have g3:Ah G (upd G2 d (.dK (Bn [] [(.inl ps[r'],.int 1)]))):=(sd.trans g2).turn hd;have e3:upd G2 d (.dK (Bn [] [(.inl ps[r'],.int 1)])) d=some (.dK (cK [(ps[r'],1)])):=Ab;generalize upd G2 d (.dK (Bn [] [(.inl ps[r'],.int 1)]))=G3 at g3 e3 ⊢;refine⟨D,d,v,ms,[(ps[r'],1)],rfl,g3 _ _ hD,e3,by omega,by simp,fun p hp=>?_,fun D2 G4 n4 g4 h4'=>?_⟩
       . rw[qb7.mp hp];exact U2 (by show -(2 ^ 64)<(1:Int);decide) (by show(1:Int)<2 ^ 64;decide)
       have n1:nd [(ps[r'],(1:Int))]:=by simp[nd]
       have l1:=GR ms v [(ps[r'],(1:Int))];rw[qh3]at l1;exact⟨D2,_,_,rfl,g.trans (g3.trans g4),g.free (g3.free n4),h4',j4 hnd v _,lS v hnd n1 Oj (fun p hp=>by rw[qb7.mp hp];exact hin),by omega⟩
     . rintro σ G ⟨D,ms,o5,rfl,g,nD,hD,hnd,Oj,hml⟩;rw[qa3]at hml;exact key _ _ ⟨D,ms,o5,rfl,g,nD,hD,hnd,Oj,by omega⟩
   rintro _ H3 ⟨D,ms,o5,rfl,s3,nD,hD,hnd,Oj,hml⟩;exact⟨_,rfl,kq ms hnd Oj hml D H3 (s1.free nD) (s1.trans s3) hD⟩
abbrev Hz:Stmt:=Hk 69
def F3:FnScope ["_law_pieces","_law_k","_law_spots","_law_edges","_law_found","_law_i","_law_j"] ["_law_pieces","_law_k"] (Al Hz):=Bl
def EH{f:Addr}{fd:FuncData}(F:Ft K "_law_twins" "_law_twins" Hz f fd)(T:Hi K mg Am Ax A3 A5 A0 Ag Av A2 Ba A6 Ay Aw A4 A9 Az Ae)(C2:Has P w K mg base "_law_border" ["_law_pieces","_law_chain"] 2 (Ka K))(Cp:Has P w K mg base "_law_level" ["_law_piece"] 1 (Cq K)):B4 P w K mg base Fv 3 f fd ["_law_pieces","_law_k"] (Qx K):=by
 refine F.ok F3 (fun vs H Q E h=>?_) (fun C7 A outer s H vs Q E hr h=>?_)
 . obtain⟨_,_,_,rfl,_⟩:=h;rfl
 . obtain⟨a,k,xs,rfl,hL,Tj,h4,kq⟩:=h;have Gv:=hr.u8
   refine⟨_,(Af (Hq (N':=["_law_place","_law_pieces","_law_k"]) (cap:=[none,some 0,some 1]) (i:=2) F3.nd (by rfl) (by first | exact Or.inl rfl | exact Or.inr rfl) (by rfl) (by kernel_rfl) (B1 (by rfl) T.n_range (Aa (As (Ar (K:=K)) T.n_len qe4 (Aa (pv 0) Ad)) Ad)) (fun _ _ _ _=>(A1 (i:=0) MZ)) (fun _ _ _ _=>(N3 (Bb C0 (Ao Cp hr (Aa (Bp (Bj (K:=K)) (pv 1) (pv 0) (fun _ _=>rfl)) Ad)) (pv 2) (Bh _)))) (fun _ _ _ _=>(pv 0)))
    (Af (Hq (N':=["_law_place","_law_pieces"]) (cap:=[none,some 0]) (i:=3) F3.nd (by rfl) (by first | exact Or.inl rfl | exact Or.inr rfl) (by rfl) (by kernel_rfl) (Co (K:=K) (pv 2)) (fun _ _ _ _=>(A1 (i:=0) SH)) (fun _ _ _ _=>C4) (fun _ _ _ _=>(Ao C2 hr (Aa (pv 1) (Aa (Eg (Cw (pv 0) Aj Dt) (by rfl) (by rfl) (by intro z;cases z) (qd7 rfl)) Ad)))))
    (Af (Aq (i:=4) F3.nd (Ck Ad))
    (Af (B3 qc3 rfl (B1 (by rfl) T.n_range (Aa (As (Ar (K:=K)) T.n_len qe4 (Aa (pv 2) Ad)) Ad)) (A1 (i:=5) F3.nd) (Af (Br (Bb (Uo (n:=8) Gv) (Bp (Bj (K:=K)) (pv 3) (pv 5) (fun _ _=>rfl)) Er (Bh _)) (Ak (Cf (Gd (K:=K) qd5 qe1 qe0 C1 (pv 4) (Aa (Eg (Cw (Bp (Bj (K:=K)) (pv 2) (pv 5) (fun _ _=>rfl)) Aj Dt) (by rfl) (by rfl) (by intro z;cases z) (qd7 rfl)) Ad)))) Bd)
    (Ak (B3 qc3 rfl (B1 (by rfl) T.n_range (Aa (pv 5) Ad)) (A1 (i:=6) F3.nd) (Ak (Br (Bb (Uo (n:=8) Gv) (Bp (Bj (K:=K)) (pv 3) (pv 6) (fun _ _=>rfl)) (Bp (Bj (K:=K)) (pv 3) (pv 5) (fun _ _=>rfl)) (Bh _)) (Ak (Cf (Gd (K:=K) qd5 qe1 qe0 C1 (pv 4) (Aa (Eg (Cw (Bp (Bj (K:=K)) (pv 2) (pv 6) (fun _ _=>rfl)) Aj (Cw (Bp (Bj (K:=K)) (pv 2) (pv 5) (fun _ _=>rfl)) (X9 Qw Aj) Dt)) (by rfl) (by rfl) (by intro z;cases z) (qd7 rfl)) Ad)))) Bd))))))
    (Ak (A8 (pv 4))))))),?_⟩
   obtain⟨us,hq,ul⟩:=LT.len hL;refine qt6 (fun σ' H'=>∃(M:Addr) (ps:List Int),σ'=[rS a,iS k,rS M,none,none,none,none]/\Ah H H'/\H' M=some (.lst (ps.map V.int))/\ps.length<=40/\∀x∈ps,0<=x/\x<(xs.length:Int)) (fun key=>?_) ?_
   . refine⟨_,rfl,a,us,rfl,.inl hq,_,rfl,by omega,by omega,fun D hD=>?_⟩
     refine Gj (fun i ys τ G1=>Ah H G1/\G1 D=some (.lst ys)/\(∃ps:List Int,ys=ps.map V.int/\ps.length<=i/\∀x∈ps,0<=x/\x<(xs.length:Int))/\∃o,τ=[o,rS a,iS k])
      ⟨Ah.new hD,Ab,⟨[],rfl,qa8 _,fun x hx=>(by cases hx)⟩,none,rfl⟩ ?_ ?_
     . rintro i ys τ G1 hi ⟨g1,Cd,⟨ps,rfl,hml,hms⟩,o,rfl⟩;rw[show(0:Int)+(i:Int)=(i:Int) by omega];have hi2:i<xs.length:=by omega
       obtain⟨u1,v1,hu1,rS,lD⟩:=LT.get (i:=(i:Int)) (Rep.same g1 hL) (by omega) (by omega);refine⟨_,rfl,_,rfl,a,u1,_,v1,rfl,rfl,hu1,rS,v1,B7 _,rfl,.inr lD,_,rfl,rfl,_,rfl,?_⟩;refine ite2 (fun h1=>?_) (fun h1=>?_)
       . refine⟨_,rfl,Cd,Cb (by rw[qa3];omega),g1.turn hD,Ab,⟨ps++[(i:Int)],by simp,by simp;omega,fun x hx=>?_⟩,_,rfl⟩;rcases qd6.mp hx with z | z
         . exact hms x z
         . rw[qb7]at z;subst z;exact⟨by omega,by omega⟩
       . exact⟨g1,Cd,⟨ps,rfl,by omega,hms⟩,_,rfl⟩
     . rintro ys τ G1 ⟨g1,Cd,⟨ps,rfl,hml,hms⟩,_⟩;exact key _ _ ⟨D,ps,rfl,g1,Cd,by omega,hms⟩
   rintro _ H1 ⟨M,ps,rfl,s1,hM,hpl,hps⟩;have Wy:=Rep.same s1 hL;have one:∀p:Int,-(2 ^ 64)<(1:Int)/\(1:Int)<2 ^ 64:=fun _=>by decide
   refine qt6 (fun σ' H'=>∃(E:Addr) (es:List Addr),σ'=[rS a,iS k,rS M,rS E,none,none,none]/\Ah H1 H'/\H' E=some (.lst (es.map V.ref))/\es.length=ps.length/\(∀(i:Nat) (e:Addr),es[i]?=some e->∃ms:Ms,H' e=some (.dK (cK ms)))) (fun key=>?_) ?_
   . refine⟨_,rfl,M,rfl,⟨_,.of hM⟩,fun E hE=>?_⟩
     refine Gk (K:=K) (a:=M) (xs:=ps.map V.int) (fun t ws τ G=>Ah H1 G/\G E=some (.lst ws)/\(∃es:List Addr,ws=es.map V.ref/\es.length=t/\∀(i:Nat) (e:Addr),es[i]?=some e->e≠E/\∃ms:Ms,G e=some (.dK (cK ms)))/\∃o,τ=[o,rS a])
      ⟨Ah.new hE,Ab,⟨[],rfl,rfl,fun i e h=>by simp at h⟩,none,rfl⟩ (fun t ws τ G _ ⟨g,_⟩=>.of (g _ _ hM)) ?_ ?_
     . rintro t x ws τ G hx ⟨g,hEG,⟨es,rfl,hel,hes⟩,o,rfl⟩;have ht:t<ps.length:=by have:=(qa2.mp hx).1;simpa using this
       have hxv:x=.int ps[t]:=by
        rw[qa7,qa0 ht]at hx;simpa using hx.symm
       subst hxv;have hin:=hps _ (qc7 ht);refine⟨_,rfl,fun d hd=>⟨_,rfl,Ab,[(.inl ps[t],.int 1)],rfl,by simp,?_⟩⟩;have sd:Ah G (upd (upd G d (.dK [])) d (.dK (Bn [] [(.inl ps[t],.int 1)]))):=(Ah.new hd).turn hd;have ed:upd (upd G d (.dK [])) d (.dK (Bn [] [(.inl ps[t],.int 1)])) d=some (.dK (cK [(ps[t],1)])):=Ab;generalize upd (upd G d (.dK [])) d (.dK (Bn [] [(.inl ps[t],.int 1)]))=G1 at sd ed ⊢;refine⟨a,d,xs,[(ps[t],1)],rfl,Rep.same (g.trans sd) Wy,h4,ed,fun p hp=>by rw[qb7.mp hp];exact hin,by simp,fun D2 G2 n2 g2 e2=>?_⟩;have sg:=sd.trans g2;have hE2:=sg _ _ hEG;have nED:D2≠E:=fun z=>by rw[z]at n2;rw[sd _ _ hEG]at n2;cases n2
       refine⟨hE2,Cb (by rw[qa3];omega),(g.trans sg).turn hE,Ab,⟨es++[D2],by simp,by simp;omega,fun i e hi=>?_⟩,_,rfl⟩;rw[qr1]at hi;split at hi
       . obtain⟨n3,ms,e3⟩:=hes i e hi;exact⟨n3,ms,by rw[Ai n3];exact sg _ _ e3⟩
       . have:e=D2:=by
          rcases Nat.lt_or_ge (i-es.length) 1 with z | z
          . rw[show i-es.length=0 by omega]at hi;simpa using hi.symm
          . rw[qg6 (by simpa using z)]at hi;cases hi
         subst this;exact⟨nED,_,by rw[Ai nED];exact e2⟩
     . rintro ws τ G ⟨g,hEG,⟨es,rfl,hel,hes⟩,_⟩;rw[qa3]at hel;exact key _ _ ⟨E,es,rfl,g,hEG,hel,fun i e hi=>(hes i e hi).2⟩
   rintro _ H2 ⟨E,es,rfl,s2,hE,hel,hes⟩;refine qt6 (fun σ' H'=>∃(F:Addr),σ'=[rS a,iS k,rS M,rS E,rS F,none,none]/\Ah H2 H'/\H2 F=none/\H' F=some (.lst [])) (fun key=>?_) ?_
   . exact⟨qb6 _,fun F hF=>key _ _ ⟨F,rfl,Ah.new hF,hF,Ab⟩⟩
   rintro _ H3 ⟨F,rfl,s3,nF,hF⟩;have VP:=s2 _ _ hM;refine qt6 (fun σ' H'=>∃(fs:List V) (o5 o6:Option V),σ'=[rS a,iS k,rS M,rS E,rS F,o5,o6]/\Ah H2 H'/\H' F=some (.lst fs)/\fs.length<=2000/\Tl xs F H' fs) (fun key=>?_) ?_
   . refine⟨_,rfl,M,_,rfl,.inl (.of (s3 _ _ VP)),_,rfl,by omega,by rw[qa3];omega,?_⟩;rw[qa3]
     refine C3 (lo:=0) (n:=ps.length) (fun i σ G=>∃(fs:List V) (o5 o6:Option V),σ=[rS a,iS k,rS M,rS E,rS F,o5,o6]/\Ah H2 G/\G F=some (.lst fs)/\fs.length<=41*i/\Tl xs F G fs)
      ⟨[],none,none,rfl,s3,hF,by simp,fun u hu=>by cases hu⟩ ?_ ?_
     . rintro i σ G hi ⟨fs,o5,o6,rfl,g,BY,hfl,hfs⟩;rw[show(0:Int)+(i:Int)=(i:Int) by omega];have sO:i<es.length:=by omega
       obtain⟨mi,hmi⟩:=hes i es[i] (qa0 sO);have hat:Pp (es.map V.ref) (i:Int)=some (.ref es[i]):=Dw (by rw[qa7,qa0 sO];rfl);have hip:=hps _ (qc7 hi);have RE:Pp (ps.map V.int) (i:Int)=some (.int ps[i]):=Dw (by rw[qa7,qa0 hi];rfl);refine An (fun σ' H'=>∃(fs:List V) (o6:Option V),σ'=[rS a,iS k,rS M,rS E,rS F,some (.int (i:Int)),o6]/\Ah H2 H'/\H' F=some (.lst fs)/\fs.length<=41*i+1/\Tl xs F H' fs) ?_ fun Fp=>?_;rotate_left
       . refine⟨_,rfl,_,rfl,E,_,_,_,rfl,rfl,.of (g _ _ hE),hat,fun d hd=>?_⟩;have sd:Ah G (upd G d (.dK [])):=Ah.new hd;have ed:upd G d (.dK []) d=some (.dK (cK [])):=Ab;generalize upd G d (.dK [])=G1 at sd ed ⊢;refine⟨es[i],d,mi,[],rfl,rfl,.inl (sd _ _ (g _ _ hmi)),.inl ed,_,rfl,?_⟩;have g1:=g.trans sd;have SR:=sd _ _ BY;have yF:=hfs.same sd;refine ite2 (fun _=>?_) (fun _=>Fp _ _ ⟨fs,_,rfl,g1,SR,by omega,yF⟩);refine⟨_,rfl,.inl ⟨rfl,_,.of SR⟩,fun d2 hd2=>?_⟩;have lQ:Ah G1 (upd G1 d2 (.dK [])):=Ah.new hd2;have sV:upd G1 d2 (.dK []) d2=some (.dK []):=Ab;generalize upd G1 d2 (.dK [])=G2 at lQ sV ⊢;refine⟨_,rfl,_,rfl,M,_,_,_,rfl,rfl,.of ((g1.trans lQ) _ _ VP),RE,sV,[(.inl ps[i],.int 1)],rfl,by simp,?_⟩;have pY:Ah G1 (upd G2 d2 (.dK (Bn [] [(.inl ps[i],.int 1)]))):=lQ.turn hd2;have yT:upd G2 d2 (.dK (Bn [] [(.inl ps[i],.int 1)])) d2=some (.dK (cK [(ps[i],1)])):=Ab;generalize upd G2 d2 (.dK (Bn [] [(.inl ps[i],.int 1)]))=G3 at pY yT ⊢;have hF3:=pY _ _ SR;have nF3:d2≠F:=fun z=>by rw[z,SR]at hd2;cases hd2
         refine⟨F,_,_,rfl,rfl,hF3,Cb (by omega),?_⟩;refine Fp _ _ ⟨fs++[.ref d2],_,rfl,(g1.trans pY).turn nF,Ab,by simp;omega,?_⟩;exact Tl.put (yF.same pY) yT nF3 (by simp[nd]) (fun p hp=>by rw[qb7.mp hp];exact hip) (by simp) (fun p hp=>by rw[qb7.mp hp];exact .inl rfl)
       clear BY hfl hfs;rintro _ G4 ⟨fs,o6,rfl,g4,BY,hfl,hfs⟩;refine⟨_,rfl,_,rfl,by omega,by omega,?_⟩
       refine C3 (lo:=0) (n:=i) (fun j σ G=>∃(fs:List V) (o6:Option V),σ=[rS a,iS k,rS M,rS E,rS F,some (.int (i:Int)),o6]/\Ah H2 G/\G F=some (.lst fs)/\fs.length<=41*i+1+j/\Tl xs F G fs)
        ⟨fs,o6,rfl,g4,BY,by omega,hfs⟩ ?_ ?_
       . rintro j σ G hj ⟨fs,o6,rfl,g,BY,hfl,hfs⟩;rw[show(0:Int)+(j:Int)=(j:Int) by omega];have hje:j<es.length:=by omega
         have hjp:j<ps.length:=by omega
         obtain⟨mj,hmj⟩:=hes j es[j] (qa0 hje);have NV:Pp (es.map V.ref) (j:Int)=some (.ref es[j]):=Dw (by rw[qa7,qa0 hje];rfl);have Ag7:=hps _ (qc7 hjp);have yH:Pp (ps.map V.int) (j:Int)=some (.int ps[j]):=Dw (by rw[qa7,qa0 hjp];rfl);refine⟨_,rfl,_,rfl,E,_,_,_,rfl,rfl,.of (g _ _ hE),NV,_,rfl,_,rfl,E,_,_,_,rfl,rfl,.of (g _ _ hE),hat,?_⟩;refine⟨es[j],es[i],mj,mi,rfl,rfl,.inl (g _ _ hmj),.inl (g _ _ hmi),_,rfl,?_⟩;refine ite2 (fun _=>?_) (fun _=>⟨fs,_,rfl,g,BY,by omega,hfs⟩);refine⟨_,rfl,.inl ⟨rfl,_,.of BY⟩,fun d2 hd2=>?_⟩;have lQ:Ah G (upd G d2 (.dK [])):=Ah.new hd2;have sV:upd G d2 (.dK []) d2=some (.dK []):=Ab;generalize upd G d2 (.dK [])=G2 at lQ sV ⊢;have yK:=(g.trans lQ) _ _ VP;refine⟨_,rfl,_,rfl,M,_,_,_,rfl,rfl,.of yK,yH,_,rfl,_,rfl,M,_,_,_,rfl,rfl,.of yK,RE,_,rfl,sV,[(.inl ps[j],.int 1),(.inl ps[i],.int (-1))],rfl,by simp,?_⟩;have em:Bn [] [(Sum.inl ps[j],V.int 1),(Sum.inl ps[i],V.int (-1))]=cK (putI [(ps[j],1)] ps[i] (-1)):=oZ [(ps[j],1)] ps[i] (-1);rw[em];have pY:Ah G (upd G2 d2 (.dK (cK (putI [(ps[j],1)] ps[i] (-1))))):=lQ.turn hd2;have yT:upd G2 d2 (.dK (cK (putI [(ps[j],1)] ps[i] (-1)))) d2=some (.dK (cK (putI [(ps[j],1)] ps[i] (-1)))):=Ab;generalize upd G2 d2 (.dK (cK (putI [(ps[j],1)] ps[i] (-1))))=G3 at pY yT ⊢;have hF3:=pY _ _ BY;have nF3:d2≠F:=fun z=>by rw[z,BY]at hd2;cases hd2
         refine⟨F,_,_,rfl,rfl,hF3,Cb (by omega),?_⟩;refine⟨fs++[.ref d2],_,rfl,(g.trans pY).turn nF,Ab,by simp;omega,?_⟩;refine Tl.put (hfs.same pY) yT nF3 (Uz (by simp[nd]) _ _) (fun p hp=>?_) (Qa _ _ _) (fun p hp=>?_)
         . rcases Tu hp with z | z
           . rw[qb7.mp z];exact Ag7
           . rw[z];exact hip
         . rcases Tu hp with z | z
           . rw[qb7.mp z];exact .inl rfl
           . rw[z];exact .inr rfl
       . rintro σ G ⟨fs,o6,rfl,g,BY,hfl,hfs⟩;exact⟨fs,_,_,rfl,g,BY,by omega,hfs⟩
     . rintro σ G ⟨fs,o5,o6,rfl,g,BY,hfl,hfs⟩;exact key _ _ ⟨fs,o5,o6,rfl,g,BY,by omega,hfs⟩
   rintro _ H4 ⟨fs,o5,o6,rfl,s4,hF4,hfl,hfs⟩;exact⟨_,rfl,kq F fs H4 ((s1.trans s2).trans s4) hF4 ⟨hfl,fun u hu=>by obtain⟨d,ms,e,_,r⟩:=hfs u hu;exact⟨d,ms,e,r⟩⟩⟩
abbrev Fc:Stmt:=Hk 73
def Dh:FnScope ["_law_found","_law_told","_law_pieces","_law_chain","_law_seconds","_law_place","_law_number_here","_law_back"] ["_law_found","_law_told","_law_pieces","_law_chain"] (Al Fc):=Bl
theorem d8{f:Addr}{fd:FuncData}(F:Ft K "_law_is_push" "_law_is_push" Fc f fd)(T:Hi K mg Am Ax A3 A5 A0 Ag Av A2 Ba A6 Ay Aw A4 A9 Az Ae)(Ls:Has P w K mg base "_law_sum" ["_law_one","_law_number_here","_law_other"] 2 (Ps K))(Dg:Has P w K mg base "_law_is_chain" ["_law_pieces","_law_thing"] 2 (Jh K))(C2:Has P w K mg base "_law_border" ["_law_pieces","_law_chain"] 2 (Ka K)):B4 P w K mg base Fv 3 f fd ["_law_found","_law_told","_law_pieces","_law_chain"] (O0 K):=by
 refine F.ok Dh (fun vs H Q E h=>?_) (fun C7 A outer s H vs Q E hr h=>?_)
 . obtain⟨_,_,_,_,_,_,_,_,rfl,_⟩:=h;rfl
 . obtain⟨R,Tc,a,b,xs,ms,kc,H0,rfl,hPT,hCT,hL,hsh,Tj,hb,hnd,hml,hkc,hch,hbd,kq⟩:=h;have Gv:=hr.u8
   refine⟨_,(Af (Br (PW.pt (Oq (Em (Db (As CW T.n_isinstance A7 (Aa (pv 0) (Aa (Fo (v:=.ty "tuple") rfl T.n_tuple Fi rfl) Ad))))) (Mn (Bb Yd (As (Ar (K:=K)) T.n_len qe4 (Aa (pv 0) Ad)) Aj (Bh _))))) (Ak (A8 Es)) Bd)
    (Af (Br (PW.pt (Oq (Em (Db (Ao Dg hr (Aa (Bp (Bx (K:=K)) (pv 1) Aj (fun _ _=>rfl)) (Aa (Bp (Bx (K:=K)) (pv 0) Aj (fun _ _=>rfl)) Ad))))) (Mn (Em (Db (Ao Dg hr (Aa (pv 2) (Aa (Bp (Bx (K:=K)) (pv 0) Aj (fun _ _=>rfl)) Ad)))))))) (Ak (A8 Es)) Bd)
    (Af (Hq (N':=["_law_pair"]) (cap:=[none]) (i:=4) Dh.nd (by rfl) (by first | exact Or.inl rfl | exact Or.inr rfl) (by rfl) (by kernel_rfl) (Co (K:=K) (Bp (Bx (K:=K)) (pv 1) Aj (fun _ _=>rfl))) (fun _ _ _ _=>(A1 (i:=0) UR)) (fun _ _ _ _=>C4) (fun _ _ _ _=>(Bp (Bx (K:=K)) (pv 0) Aj (fun _ _=>rfl))))
    (Af (Le (B3 qc3 rfl (Fl (Bp (Bx (K:=K)) (pv 0) Aj (fun _ _=>rfl))) (Dj (K:=K) (n:=2) (by rfl) (Bq (A1 (i:=5) Dh.nd) (Bq (A1 (i:=6) Dh.nd) Di))) (Ak (Br (Bb (Ge (K:=K) Gv) (pv 5) (pv 4) rfl) (Ak (A8 Es)) Bd))))
    (Af (Aq (i:=7) Dh.nd Er)
    (Af (Le (B3 qc3 rfl (Fl (Bp (Bx (K:=K)) (pv 0) Aj (fun _ _=>rfl))) (Dj (K:=K) (n:=2) (by rfl) (Bq (A1 (i:=5) Dh.nd) (Bq (A1 (i:=6) Dh.nd) Di))) (Ak (N4 (u1 Gv) (pv 7) (Bp (Bj (K:=K)) (Bp (Bx (K:=K)) (pv 1) Aj (fun _ _=>rfl)) (pv 5) (fun _ _=>rfl)) (pv 6) (by rfl)))))
    (Ak (A8 (Fn (Uo (n:=8) Gv) (Ao Ls hr (Aa (pv 7) (Aa Aj (Aa (Ao C2 hr (Aa (pv 2) (Aa (Bp (Bx (K:=K)) (pv 0) Aj (fun _ _=>rfl)) Ad))) Ad)))) (pv 3) (Bh _)))))))))),?_⟩
   obtain⟨L,F,_,_,nLF,hR,RH,wN⟩:=hPT;obtain⟨TL,TP,TM,us,qu,ZK,hTL,rTL,zL,hTM,rTM⟩:=hCT
   have h4:∀z∈xs,z.length<=4:=fun z hz=>by
    obtain⟨i,hi,e⟩:=qh1 hz;have:=(hsh i z (by rw[qa0 hi,e])).cnt;omega
   have PA:=GK hsh hnd hch hbd;obtain⟨VI,hz⟩:=Iz.mp hch;obtain⟨lvl,ZG⟩:=AX hsh (cF xs).2 ms [] (fun p hp=>Se hp) VI (fun p hp=>by cases hp);obtain⟨ll,lf⟩:=P3 h4 (cF xs).2 ms [];have cle:=sX xs;have sec:=Sl (xs:=xs) (cF xs).2 ms [];simp only[qf7]at lf;generalize hPF:Cv xs (cF xs).2 ms []=PF at PA lvl ZG ll lf sec RH wN;have nk:(kF xs).Nodup:=Iv _ _
   have rE:∀p∈PF.1,p.1∈kF xs:=fun p hp=>by
    by_cases z:p.1∈kF xs
    . exact z
    . have e1:=PA.out p.1 z;rw[Is PA.ndl hp]at e1;exact absurd e1 (PA.nzl p hp)
   have lcr:=fB (kF xs) PF.1 PF.1.length;have ncr:nd (GZ (kF xs) PF.1):=Yh _ _ _;have zcr:nz (GZ (kF xs) PF.1):=gQ _ _ _;have rcr:=AB nk PA.ndl rE;have Ad3:(GZ (kF xs) PF.1).length<=400:=qe5 lcr (by omega);have chS:C5 (sub xs (kF xs)) (kc:Int) (GZ (kF xs) PF.1)=true:=OS nk PA.ndl rE lvl;have ch1:C5 xs ((kc+1:Nat):Int) PF.2=true:=Iz.mpr ⟨ZG,PA.nzf⟩
   have Ag4:PF.2=[]\/kc+1<4:=by
    cases hq:PF.2 with
    | nil=>exact .inl rfl
    | cons q r =>
      refine .inr ?_;obtain⟨a1,a2,a3⟩:=ZG q (by rw[hq];exact qb2);have:=h4 _ (qb5 (Iq a1 a2));unfold lev at a3;omega
   refine qt6 (fun σ' H'=>σ'=[rS R,rS Tc,rS a,rS b,none,none,none,none]/\H=H') (fun key=>?_) ?_
   . refine⟨_,rfl,R,_,rfl,hR,_,rfl,?_⟩;refine Fx (by decide) ?_;refine⟨_,rfl,R,_,rfl,.inr (.of hR),rfl,_,rfl,?_⟩;refine Fx (by simp) ?_;exact key _ _ ⟨rfl,rfl⟩
   rintro _ _ ⟨rfl,rfl⟩;refine qt6 (fun σ' H'=>σ'=[rS R,rS Tc,rS a,rS b,none,none,none,none]/\Ah H H') (fun key=>?_) ?_
   . refine⟨_,rfl,Tc,_,_,_,rfl,rfl,.of ZK,rfl,_,rfl,R,_,_,_,rfl,rfl,.of hR,rfl,?_⟩;refine⟨TL,.ref L,sub xs (kF xs),.dk (cK (GZ (kF xs) PF.1)),rfl,⟨TL,us,rfl,.of hTL,rTL⟩,Zr h4,(.inl (Gu RH (by omega))),True.intro,fun c H1 s1 hc=>?_⟩;have:c=true:=hc.mpr ⟨kc,hkc,by rw[Ik];exact chS⟩;subst this;refine⟨_,rfl,?_⟩;refine Fx (by decide) ?_;refine⟨_,rfl,_,rfl,R,_,_,_,rfl,rfl,.of (s1 _ _ hR),rfl,?_⟩;refine⟨a,.ref F,xs,.dk (cK PF.2),rfl,Rep.same s1 hL,h4,(.inl (Gu (s1 _ _ wN) (by omega))),True.intro,fun c H2 s2 hc=>?_⟩
     have:c=true:=hc.mpr (by
      rcases Ag4 with z | z
      . exact⟨0,by decide,by rw[Ik,z];rfl⟩
      . exact⟨kc+1,z,by rw[Ik];exact ch1⟩)
     subst this;refine⟨_,rfl,?_⟩;refine Fx (by decide) ?_;exact key _ _ ⟨rfl,s1.trans s2⟩
   rintro _ H1 ⟨rfl,s1⟩;have lE:=s1 _ _ hR;have VO:=s1 _ _ ZK;have SR:=s1 _ _ wN;have vQ:=s1 _ _ RH;refine qt6 (fun σ' H'=>∃S:Addr,σ'=[rS R,rS Tc,rS a,rS b,rS S,none,none,none]/\Ah H1 H'/\H1 S=none/\H' S=some (.lst (((cF xs).2.map fun p=>p.getD 1 0).map V.int))) (fun key=>?_) ?_
   . refine⟨_,rfl,Tc,_,_,_,rfl,rfl,.of VO,rfl,TM,rfl,⟨_,.of (s1 _ _ hTM)⟩,fun S hS=>?_⟩
     refine Gk (K:=K) (a:=TM) (xs:=qu) (fun t ws τ G=>Ah H1 G/\G S=some (.lst ws)/\ws=(((cF xs).2.take t).map fun p=>p.getD 1 0).map V.int/\∃o,τ=[o])
      ⟨Ah.new hS,Ab,rfl,none,rfl⟩ (fun t ws τ G _ ⟨g,_⟩=>.of (g _ _ (s1 _ _ hTM))) ?_ ?_
     . rintro t x ws τ G hx ⟨g,sQ,rfl,o,rfl⟩;obtain⟨d,hd,rd⟩:=rTM.getV hx;rw[qa7]at hd;obtain⟨p,hp,rfl⟩:=qp8.mp hd;obtain⟨f,q,rfl,_⟩:=Se (qb5 hp);have ht:=(qa2.mp hp).1;obtain⟨ax,rfl,wK⟩:=TI.sq (qn2 (s1.trans g) (show TI K H x [f,q] from rd));refine⟨_,rfl,ax,_,_,_,rfl,rfl,wK,rfl,sQ,Cb (by rw[qa3,qa3,qc4];omega),g.turn hS,Ab,?_,_,rfl⟩;rw[qf0,hp,qb1,qb1];rfl
     . rintro ws τ G ⟨g,sQ,rfl,_⟩;have:qu.length=(cF xs).2.length:=by have:=rTM.length;simpa using this
       rw[this,qb9]at sQ;exact key _ _ ⟨S,rfl,g,hS,sQ⟩
   rintro _ H2 ⟨S,rfl,s2,nS,SQ⟩;refine qt6 (fun σ' H'=>∃o5 o6,σ'=[rS R,rS Tc,rS a,rS b,rS S,o5,o6,none]/\Ah H2 H') (fun key=>?_) ?_
   . have yL:=s2 _ _ SR;refine .inr ⟨F,cK PF.2,yL,fun VH o=>?_⟩;have nRF:R≠F:=fun z=>by rw[z,wN]at hR;cases hR
     have nSF:S≠F:=fun z=>by rw[z,SR]at nS;cases nS
     have hRF:upd H2 F (.frz o (.dK (cK PF.2))) R=some (.tup [.ref L,.ref F]):=by rw[Ai nRF];exact s2 _ _ lE
     refine⟨_,rfl,R,_,_,_,rfl,rfl,.of hRF,rfl,F,o,cK PF.2,rfl,Ab,?_⟩
     refine Ei (d:=F) (o:=o) (kvs:=cK PF.2) (fun i σ G=>∃o5 o6,σ=[rS R,rS Tc,rS a,rS b,rS S,o5,o6,none]/\G F=some (.frz o (.dK (cK PF.2)))/\(∀c q,c≠F->H2 c=some q->G c=some q))
      ⟨none,none,rfl,Ab,fun c q n1 e=>by rw[Ai n1];exact e⟩ (fun i σ G _ ⟨_,_,_,e,_⟩=>e) ?_ ?_
     . rintro i kk x σ G p hx ⟨o5,o6,rfl,BY,Mc⟩ hp;obtain⟨q,hq2,rfl,rfl⟩:=Ly hx;have Pt:=Ah.new (o:=.tup [kV (Sum.inl q.1),V.int q.2]) hp;have sQ:=Pt _ _ (Mc S _ nSF SQ);refine⟨p,_,rfl,.of Ab,rfl,_,_,rfl,_,_,rfl,rfl,?_⟩;refine⟨_,rfl,_,rfl,.int q.1,B7 ((cF xs).2.map fun p=>p.getD 1 0),rfl,lT (.of sQ),(by rw[Gi];decide),_,rfl,?_⟩
       have hin:q.1∈(cF xs).2.map fun p=>p.getD 1 0:=by
        rcases sec q (qb5 hq2) with⟨z,hz,_⟩|⟨r,hr,e⟩
        . cases hz
        . exact qd8.mpr ⟨r,hr,e⟩
       refine Fx (by rw[pB,qd3 hin];decide) ?_;exact⟨_,_,rfl,Pt _ _ BY,fun c r n e=>Pt _ _ (Mc c r n e)⟩
     . rintro σ G ⟨o5,o6,rfl,BY,Mc⟩;refine⟨BY,key _ _ ⟨o5,o6,rfl,fun c q e=>?_⟩⟩;by_cases z:c=F
       . subst z;rw[yL]at e;cases e;exact Ab
       . rw[Ai z];exact Mc c q z e
   rintro _ H3 ⟨o5,o6,rfl,s3⟩;have DY:=s2.trans s3;refine qt6 (fun σ' H'=>∃D:Addr,σ'=[rS R,rS Tc,rS a,rS b,rS S,o5,o6,rS D]/\Ah H3 H'/\H3 D=none/\H' D=some (.dK (cK []))) (fun key=>?_) ?_
   . exact fun D hD=>key _ _ ⟨D,rfl,Ah.new hD,hD,Ab⟩
   rintro _ H4 ⟨D,rfl,s4,nD,NW⟩;have X5:=DY.trans s4;have hL4:=X5 _ _ vQ;have nDL:L≠D:=fun z=>by rw[←z,DY _ _ vQ]at nD;cases nD
   have nRL:R≠L:=fun z=>by rw[z,RH]at hR;cases hR
   have nTL:Tc≠L:=fun z=>by rw[z,RH]at ZK;cases ZK
   have nPL:TP≠L:=fun z=>by rw[z,RH]at zL;cases zL
   have nTD:Tc≠D:=fun z=>by rw[←z,DY _ _ VO]at nD;cases nD
   have nPD:TP≠D:=fun z=>by rw[←z,DY _ _ (s1 _ _ zL)]at nD;cases nD
   have nbk:=SJ nk PA.ndl rE;have gbk:=vR nk PA.ndl rE;generalize hlc:GZ (kF xs) PF.1=lc at *;refine qt6 (fun σ' H'=>∃o5 o6,σ'=[rS R,rS Tc,rS a,rS b,rS S,o5,o6,rS D]/\Ah H3 H'/\H' D=some (.dK (cK (Zc (kF xs) lc)))) (fun key=>?_) ?_
   . refine .inr ⟨L,cK lc,hL4,fun VH o=>?_⟩;have hRL:upd H4 L (.frz o (.dK (cK lc))) R=some (.tup [.ref L,.ref F]):=by rw[Ai nRL];exact X5 _ _ lE
     refine⟨_,rfl,R,_,_,_,rfl,rfl,.of hRL,rfl,L,o,cK lc,rfl,Ab,?_⟩
     refine Ei (d:=L) (o:=o) (kvs:=cK lc) (fun i σ G=>∃o5 o6,σ=[rS R,rS Tc,rS a,rS b,rS S,o5,o6,rS D]/\G L=some (.frz o (.dK (cK lc)))/\G D=some (.dK (cK (Zc (kF xs) (lc.take i))))/\(∀c q,c≠L->c≠D->H4 c=some q->G c=some q))
      ⟨o5,o6,rfl,Ab,by rw[Ai nDL.symm];exact NW,fun c q n1 n2 e=>by rw[Ai n1];exact e⟩ (fun i σ G _ ⟨_,_,_,e,_⟩=>e) ?_ ?_
     . rintro i kk x σ G0 p hx ⟨o5,o6,rfl,RI,VQ,NT⟩ hp;obtain⟨q,hq2,rfl,rfl⟩:=Ly hx;have hlt:=(qa2.mp hq2).1;have Pt:Ah G0 (upd G0 p (.tup [kV (Sum.inl q.1),V.int q.2])):=Ah.new hp;refine⟨p,_,rfl,.of Ab,rfl,_,_,rfl,_,_,rfl,rfl,?_⟩;have Xl:=Pt _ _ RI;have Cd:=Pt _ _ VQ;have Mc:∀c r,c≠L->c≠D->H4 c=some r->(upd G0 p (.tup [kV (Sum.inl q.1),V.int q.2])) c=some r:=fun c r n1 n2 e=>Pt _ _ (NT c r n1 n2 e);generalize upd G0 p (.tup [kV (Sum.inl q.1),V.int q.2])=G at Xl Cd Mc ⊢;obtain⟨q0,q1,_⟩:=rcr q (qb5 hq2);have hTG:=Mc Tc _ nTL nTD (X5 _ _ VO);have hPG:=Mc TP _ nPL nPD (X5 _ _ (s1 _ _ zL));have lb:(Zc (kF xs) (lc.take i)).length<=1000:=by unfold Zc;rw[qa3,qc4];omega
       have eb:Zc (kF xs) (lc.take i)=(Zc (kF xs) lc).take i:=by unfold Zc;rw[qj4]
       have JU:(Zc (kF xs) lc)[i]?=some (Cy (kF xs) q.1,q.2):=by unfold Zc;rw[qa7,hq2];rfl
       have nw:=Pr nbk JU
       have step:Zc (kF xs) (lc.take (i+1))=putI (Zc (kF xs) (lc.take i)) (Cy (kF xs) q.1) q.2:=by
        rw[eb,put_new nw];unfold Zc;rw[qj4,qf0];show _++(Zc (kF xs) lc)[i]?.toList=_;rw[JU];rfl
       rw[step];refine⟨_,rfl,_,rfl,_,rfl,Tc,_,_,_,rfl,rfl,.of hTG,rfl,_,rfl,TP,_,_,_,rfl,rfl,.of hPG,Hh q0 q1,D,_,rfl,N8 Cd (by omega),?_⟩;exact⟨_,_,rfl,by rw[Ai nDL];exact Xl,Ab,fun c r n1 n2 e=>by rw[Ai n2];exact Mc c r n1 n2 e⟩
     . rintro σ G ⟨o5,o6,rfl,Xl,Cd,Mc⟩;rw[Hg,qb9]at Cd;refine⟨Xl,key _ _ ⟨o5,o6,rfl,fun c q e=>?_,by rw[Ai nDL.symm];exact Cd⟩⟩;by_cases z:c=L
       . subst z;rw[DY _ _ vQ]at e;cases e;exact Ab
       . rw[Ai z];exact Mc c q z (Ap e nD) (s4 _ _ e)
   clear o5 o6;rintro _ H5 ⟨o5,o6,rfl,s5,zM⟩;have AH:=DY.trans s5;have s05:=s1.trans AH;refine⟨_,rfl,_,rfl,_,rfl,R,_,_,_,rfl,rfl,.of (AH _ _ lE),rfl,?_⟩;refine⟨a,F,xs,PF.2,rfl,Rep.same s05 hL,h4,AH _ _ SR,ZG.rg,by omega,fun B H6 nB s6 hB=>?_⟩;have lz:=Rp h4 PF.2 PF.2.length;have lz2:=N6 (zN xs PF.2 PF.2.length);have lbk:(Zc (kF xs) lc).length<=400:=by unfold Zc;rw[qa3];exact Ad3
   refine⟨D,B,1,Zc (kF xs) lc,E3 (zN xs PF.2 PF.2.length),rfl,s6 _ _ zM,hB,lbk,by omega,fun p _=>j7 (by decide) (by decide),fun Z H7 nZ s7 hZ=>?_⟩;have s57:=s6.trans s7
   have same:sameC (rY (Zc (kF xs) lc) 1 (E3 (zN xs PF.2 PF.2.length))) ms=true:=by
    refine X4 (j4 nbk _ _) hnd (MX _ _ _) hz fun e=>?_;rw[gW nbk 1 (U0 (Uy xs PF.2 _)),Vm,gbk,Iy,Int.one_mul];exact PA.sum e
   refine⟨_,rfl,Z,b,_,_,rfl,rfl,.inl hZ,.inl ((s05.trans s57) _ _ hb),?_⟩;rw[same];exact kq _ (s05.trans s57)
abbrev Hv:Stmt:=Hk 9
def dW:FnScope ["shape","k","place","number"] ["shape","k","place","number"] (Al Hv):=Bl
def eF{f:Addr}{fd:FuncData}(F:Ft K "is_part" "is_part" Hv f fd)(T:Hi K mg Am Ax A3 A5 A0 Ag Av A2 Ba A6 Ay Aw A4 A9 Az Ae)(Ez:Has P w K mg base "is_place_of_level" ["shape","thing","level"] 3 (D4 K))(Eh:Has P w K mg base "is_whole" ["thing"] 1 (E6 K)):B4 P w K mg base Fv 4 f fd ["shape","k","place","number"] (Mj K):=by
 refine F.ok dW (fun vs H Q E h=>?_) (fun C7 A outer s H vs Q E hr h=>?_)
 . obtain⟨_,_,_,_,_,_,_,rfl,_⟩:=h;rfl
 . obtain⟨a,xs,k,x,y,d,e,rfl,hL,hx,hy,kq⟩:=h;refine⟨_,(Ak (A8 (Lf (Ao Ez hr (Aa (pv 0) (Aa (pv 2) (Aa (pv 1) Ad)))) (Lf (Ao Eh hr (Aa (pv 3) Ad)) (Mo (Fn Yd (pv 3) Aj (Bh _))))))),?_⟩;refine⟨_,rfl,_,rfl,_,rfl,a,x,d,k,xs,rfl,hL,hx,_,rfl,?_⟩;refine ite2 (fun e1=>?_) (fun e1=>?_)
   . refine⟨_,rfl,y,e,rfl,hy,_,rfl,?_⟩;refine ite2 (fun e2=>?_) (fun e2=>?_)
     . obtain⟨n,rfl⟩:=Xx e2;cases (show y=.int n from hy);refine⟨_,rfl,rfl,?_⟩
       have e3:Ej xs k d (.int n)=!decide (V.int n=V.int 0):=by
        unfold Ej zD;rw[e1];by_cases z:n=0
        . subst z;simp
        . simp[z]
       rw[e3]at kq;exact kq
     . have vV:D3 e=false:=by simpa using e2
       rw[Yb (mX vV)]at kq;exact kq
   . have YU:B8 xs d k=false:=by simpa using e1
     rw[Yc YU]at kq;exact kq
abbrev Re:Stmt:=Hk 44
def GJ:FnScope ["shape","thing","kept"] ["shape","thing"] (Al Re):=Bl
def QM{f:Addr}{fd:FuncData}(F:Ft K "away" "away" Re f fd)(T:Hi K mg Am Ax A3 A5 A0 Ag Av A2 Ba A6 Ay Aw A4 A9 Az Ae)(Vg:Has P w K mg base "is_bent" ["shape","thing"] 3 (O1 K))(O6:Has P w K mg base "left_with" ["shape","kept"] 2 (K2 K)):B4 P w K mg base Fv 4 f fd ["shape","thing"] (Zu K):=by
 refine F.ok GJ (fun vs H Q E h=>?_) (fun C7 A outer s H vs Q E hr h=>?_)
 . obtain⟨_,_,_,_,_,rfl,_⟩:=h;rfl
 . obtain⟨a,v,ys,i,j,rfl,hL,hyl,h4,hv,sP,hcl,k⟩:=h;have Gv:=hr.u8
   refine⟨_,(Af (Br (Em (Db (Ao Vg hr (Aa (pv 0) (Aa (pv 1) Ad))))) (Ak lZ) Bd)
    (Af (Hq (N':=["place","thing"]) (cap:=[none,some 1]) (i:=2) GJ.nd (by rfl) (by first | exact Or.inl rfl | exact Or.inr rfl) (by rfl) (by kernel_rfl) (B1 (by rfl) T.n_range (Aa (As (Ar (K:=K)) T.n_len qe4 (Aa (pv 0) Ad)) Ad)) (fun _ _ _ _=>(A1 (i:=0) mZ)) (fun _ _ _ _=>(N3 (Bb (Ge (K:=K) Gv) (pv 0) (pv 1) rfl))) (fun _ _ _ _=>(pv 0)))
    (Ak (A8 (Ch (Aa (Ao O6 hr (Aa (pv 0) (Aa (pv 2) Ad))) (Aa (pv 2) Ad))))))),?_⟩
   obtain⟨yu,hyq,Ad7⟩:=LT.len hL;refine qt6 (fun σ' H'=>σ'=[rS a,some v,none]/\Ah H H') (fun key=>?_) ?_
   . refine⟨_,rfl,_,rfl,a,v,ys,[i,j],rfl,hL,hyl,h4,hv,by simp,fun H' s'=>?_⟩;rw[qd3 sP];refine⟨_,rfl,?_⟩;refine Fx (by simp) ?_;exact key _ _ ⟨rfl,s'⟩
   rintro _ H1 ⟨rfl,s1⟩;obtain⟨av,rfl,tW⟩:=TI.sq hv;have rl:∀m:Nat,m<=ys.length->(C6 m [i,j]).length<=m:=fun m _=>qe5 (qi6 ..) (by rw[Gm];exact qa8 _);refine qt6 (fun σ' H'=>∃P:Addr,σ'=[rS a,rS av,rS P]/\Ah H1 H'/\H1 P=none/\H' P=some (.lst ((C6 ys.length [i,j]).map V.int))) (fun key=>?_) ?_
   . refine⟨_,rfl,a,yu,rfl,.inl (s1.seq hyq),_,rfl,by omega,by omega,fun D hD=>?_⟩;rw[Ad7]
     refine Gj (n:=ys.length) (fun m ws τ G=>Ah H1 G/\G D=some (.lst ws)/\ws=(C6 m [i,j]).map V.int/\m<=ys.length/\∃o,τ=[o,rS av])
      ⟨Ah.new hD,Ab,rfl,qb6 _,none,rfl⟩ ?_ ?_
     . rintro m ws τ G hm ⟨g,Cd,rfl,hml,o,rfl⟩;rw[show(0:Int)+(m:Int)=(m:Int) by omega];have sv:TI K G (.ref av) [i,j]:=qn2 (s1.trans g) hv
       have e5:C6 (m+1) [i,j]=C6 m [i,j]++(if (decide ((m:Int)≠i)&&decide ((m:Int)≠j))=true then [(m:Int)] else []):=by
        unfold C6;rw[lJ,qr9]
        congr 1
        by_cases hz:(decide ((m:Int)≠i)&&decide ((m:Int)≠j))=true
        . rw[if_pos hz,qp3 (by exact hz),qn5]
        . rw[if_neg hz,qm4 (by exact hz),qn5]
       have hrl:=rl m hml;refine⟨_,rfl,_,rfl,.int (m:Int),B7 [i,j],rfl,.inr sv,(by rw[Gi];decide),_,rfl,?_⟩
       have et:(if true=true then !((B7 [i,j]).any fun e=>eqD e (.int (m:Int))) else(B7 [i,j]).any fun e=>eqD e (.int (m:Int)))=(decide ((m:Int)≠i)&&decide ((m:Int)≠j)):=by
        rw[if_pos rfl];simp only[B7,qc6,qj1,qh8,qt4,eqD,qs4];rw[qh4];simp;omega
       rw[et];refine ite2 (fun h1=>?_) (fun h1=>?_)
       . refine⟨_,rfl,Cd,Cb (by rw[qa3];omega),g.turn hD,Ab,?_,by omega,_,rfl⟩;rw[e5,if_pos h1,qb1];rfl
       . refine⟨g,Cd,?_,by omega,_,rfl⟩;rw[e5,if_neg h1,qf8]
     . rintro ws τ G ⟨g,Cd,rfl,_,_⟩;exact key _ _ ⟨D,rfl,g,hD,Cd⟩
   rintro _ H2 ⟨P,rfl,s2,nP,hP⟩;have s12:=s1.trans s2;have rl2:=rl ys.length (qa8 _);refine⟨_,rfl,_,rfl,a,P,ys,C6 ys.length [i,j],rfl,Rep.same s12 hL,.of hP,Ui _ _,P2,hcl,by omega,h4,fun L us H3 hL3 s3 Ai7 r3=>?_⟩;refine⟨_,rfl,Bk (by simp),fun Rr hRr=>?_⟩;have s4:=Ah.new (o:=.tup [.ref L,.ref P]) hRr;exact k Rr L P us _ ((s12.trans s3).trans s4) (s12.free hL3) (s1.free nP) Ab (s4 _ _ Ai7) (Reps.same s4 r3) ((s3.trans s4) _ _ hP)
abbrev Id:Stmt:=Hk 61
def Ip:FnScope ["_law_kind","_law_cells","_law_most","_law_pieces","_law_cell","_law_piece"] ["_law_kind","_law_cells","_law_most"] (Al Id):=Bl
def EK{f:Addr}{fd:FuncData}(F:Ft K "_law_built" "_law_built" Id f fd)(T:Hi K mg Am Ax A3 A5 A0 Ag Av A2 Ba A6 Ay Aw A4 A9 Az Ae)(M8:Has P w K mg base "_law_shape_by" ["_law_kind","_law_cells","_law_most"] 3 (Mi K))(Tx:Has P w K mg base "_law_fits" ["_law_pieces","_law_thing"] 2 (Q1 K))(r6:Has P w K mg base "_law_next" ["_law_pieces","_law_cell"] 3 (Q5 K)):B4 P w K mg base Fv 4 f fd ["_law_kind","_law_cells","_law_most"] (Q2 K):=by
 refine F.ok Ip (fun vs H Q E h=>?_) (fun C7 A outer s H vs Q E hr h=>?_)
 . obtain⟨_,_,_,_,rfl,_⟩:=h;rfl
 . obtain⟨cl,ns,kind,most,rfl,hS,hl,hm0,hm1,k⟩:=h
   refine⟨_,(Af (Aq (i:=3) Ip.nd (Ck Ad))
    (Af (Br (Bb C0 (Bg B5 (pv 0) Aj) Aj (Bh _)) (Af (B3 qc3 rfl (Co (K:=K) (pv 1)) (A1 (i:=4) Ip.nd) (Ak (Br (Bb P6 (As (Ar (K:=K)) T.n_len qe4 (Aa (pv 3) Ad)) (pv 2) (Bh _)) (Af (Aq (i:=5) Ip.nd (Ao r6 hr (Aa (pv 3) (Aa (Bg Dq (Bg B5 (pv 4) Aj) (Bg op_mulX Aj (As (Ar (K:=K)) T.n_len qe4 (Aa (pv 3) Ad)))) Ad))))
    (Ak (Br (Db (Ao Tx hr (Aa (pv 3) (Aa (pv 5) Ad)))) (Ak (Cf (Gd (K:=K) qd5 qe1 qe0 C1 (pv 3) (Aa (pv 5) Ad)))) Bd))) Bd)))
    (Ak (A8 (pv 3)))) Bd)
    (Af (B3 qc3 rfl (Co (K:=K) (Ao M8 hr (Aa (Bg Ex (pv 0) Aj) (Aa (pv 1) (Aa (pv 2) Ad))))) (A1 (i:=5) Ip.nd) (Ak (Br (PW.pt (Rg (Bb P6 (As (Ar (K:=K)) T.n_len qe4 (Aa (pv 3) Ad)) (pv 2) (Bh _)) (N2 (Db (Ao Tx hr (Aa (pv 3) (Aa (pv 5) Ad))))))) (Ak (Cf (Gd (K:=K) qd5 qe1 qe0 C1 (pv 3) (Aa (pv 5) Ad)))) Bd)))
    (Ak (A8 (pv 3)))))),?_⟩
   refine⟨qb6 _,fun D hD=>?_⟩;have s0:Ah H (upd H D (.lst [])):=Ah.new hD;have bZ:(upd H D (.lst [])) D=some (.lst []):=Ab;generalize upd H D (.lst [])=H0 at s0 bZ;refine Nv (fun σ' H'=>σ'=[iS kind,rS cl,iS most,rS D,none,none]/\H0=H') ?_ fun fD=>fD _ _ ⟨rfl,rfl⟩;rintro _ _ ⟨rfl,rfl⟩;refine qt6 (fun σ' H'=>σ'=[iS kind,rS cl,iS most,rS D,none,none]/\H0=H') (fun key=>?_) ?_
   . refine⟨_,rfl,_,_,rfl,rfl,(by show(0:Int)<2;decide),rfl,_,rfl,?_⟩;refine ite2 (fun _=>?_) (fun _=>key _ _ ⟨rfl,rfl⟩)
     refine⟨_,rfl,cl,rfl,⟨_,s0.seq hS⟩,for_list (K:=K) (a:=cl) (xs:=ns.map V.int) (fun j σ G=>∃(du:List V) (xs:LLInt) (o4 o5:Option V),σ=[iS kind,rS cl,iS most,rS D,o4,o5]/\Ah H G/\G D=some (.lst du)/\Reps K G du (xs.map tI)/\B0 xs/\(xs.length:Int)<=most)
      ⟨[],[],none,none,rfl,s0,bZ,rfl,X0,by simpa using hm0⟩ (fun j σ G _ ⟨_,_,_,_,_,g,_⟩=>g.seq hS) ?_ ?_⟩
     . rintro j x σ G hx ⟨du,xs,o4,o5,rfl,g,Cd,rD,hC,Xk⟩;have hjn:j<ns.length:=by have:=(qa2.mp hx).1;simpa using this
       have hxv:x=.int ns[j]:=by
        rw[qa7,qa0 hjn]at hx;simpa using hx.symm
       subst hxv;have zQ:du.length=xs.length:=by have:=rD.length;simpa using this
       refine⟨_,rfl,D,_,rfl,.inl (.of Cd),_,rfl,_,_,rfl,rfl,_,rfl,?_⟩;refine ite2 (fun h1=>?_) (fun h1=>⟨du,xs,_,_,rfl,g,Cd,rD,hC,by omega⟩);have h1:(xs.length:Int)<most:=by rw[zQ]at h1;simpa using h1
       refine⟨_,rfl,_,rfl,_,_,rfl,rfl,(by show(0:Int)<1000003;decide),_,rfl,D,_,rfl,.inl (.of Cd),_,_,rfl,rfl,j7 (by decide) (by decide),_,_,rfl,rfl,D,xs,_,rfl,⟨D,du,rfl,.of Cd,rD⟩,Kb hC,by omega,fun w p G1 g1 tw=>?_⟩;have Xm:=g1 _ _ Cd;have XH:=Reps.same g1 rD;refine⟨_,rfl,_,rfl,D,w,.d (tI p),xs,rfl,⟨D,du,rfl,.of Xm,XH⟩,Kb hC,by omega,tw,fun G2 g2=>?_⟩;have gg:=g.trans (g1.trans g2);have Pa:=g2 _ _ Xm;have sA:=Reps.same g2 XH;refine⟨_,rfl,?_⟩;refine ite2 (fun h2=>?_) (fun h2=>⟨du,xs,_,_,rfl,gg,Pa,sA,hC,by omega⟩);refine⟨_,rfl,.inl ⟨rfl,_,.of Pa⟩,_,rfl,D,_,_,rfl,rfl,Pa,Cb (by omega),?_⟩;exact⟨_,xs++[p],_,_,rfl,gg.turn hD,Ab,Ew Pa sA (qn2 g2 tw),Uf hC (GX (Kb hC) h2),by rw[qd1];simp;omega⟩
     . rintro σ G ⟨du,xs,o4,o5,rfl,g,Cd,rD,hC,Xk⟩;exact⟨_,rfl,k D du xs G hD g Cd rD hC (by omega)⟩
   rintro _ _ ⟨rfl,rfl⟩;refine⟨_,rfl,_,_,rfl,rfl,⟨by decide,by decide⟩,_,rfl,_,rfl,cl,ns,_,most,rfl,s0.seq hS,hl,hm0,by omega,fun W wu G0 zs hW g0 YH rW hsh hzl=>?_⟩;have g00:=s0.trans g0;have wul:wu.length=zs.length:=by have:=rW.length;simpa using this
   refine⟨W,rfl,⟨_,.of YH⟩,for_list (K:=K) (a:=W) (xs:=wu) (fun j σ G=>∃(du:List V) (xs:LLInt) (o5:Option V),σ=[iS kind,rS cl,iS most,rS D,none,o5]/\Dx D G0 G/\G D=some (.lst du)/\Reps K G du (xs.map tI)/\B0 xs/\(xs.length:Int)<=most)
    ⟨[],[],none,rfl,Dx.refl _ _,g0 _ _ bZ,rfl,X0,by simpa using hm0⟩ (fun j σ G _ ⟨_,_,_,_,g,_⟩=>.of (g _ _ (Ap bZ hW).symm YH)) ?_ ?_⟩
   . rintro j x σ G hx ⟨du,xs,o5,rfl,g,Cd,rD,hC,Xk⟩;have hj:j<wu.length:=(qa2.mp hx).1;have hjz:j<zs.length:=by omega
     have hjx:(zs.map tI)[j]?=some (tI zs[j]):=by rw[qa7,qa0 hjz];rfl
     obtain⟨x',hx',tx⟩:=rW.get hjx;rw[hx]at hx';cases hx';have zX:TI K G x zs[j]:=TI.t (g.t (g0 _ _ bZ)) tx;generalize zs[j]=p at zX;have zQ:du.length=xs.length:=by have:=rD.length;simpa using this
     refine⟨_,rfl,D,_,rfl,.inl (.of Cd),_,rfl,_,_,rfl,rfl,_,rfl,?_⟩;refine ite2 (fun h1=>?_) (fun h1=>?_);rotate_left
     . refine Fx (by simp) ?_;exact⟨du,xs,_,rfl,g,Cd,rD,hC,by omega⟩
     have h1:(xs.length:Int)<most:=by rw[zQ]at h1;simpa using h1
     refine⟨_,rfl,_,rfl,D,x,.d (tI p),xs,rfl,⟨D,du,rfl,.of Cd,rD⟩,Kb hC,by omega,zX,fun G2 g2=>?_⟩;have Pa:=g2 _ _ Cd;have sA:=Reps.same g2 rD;have gx:=g.trans (Dx.of g2);refine⟨_,rfl,?_⟩;refine ite2 (fun h2=>?_) (fun h2=>⟨du,xs,_,rfl,gx,Pa,sA,hC,by omega⟩);refine⟨_,rfl,.inl ⟨rfl,_,.of Pa⟩,_,rfl,D,_,_,rfl,rfl,Pa,Cb (by omega),?_⟩;exact⟨_,xs++[p],_,rfl,gx.upd,Ab,Ew Pa sA (qn2 g2 zX),Uf hC (GX (Kb hC) h2),by rw[qd1];simp;omega⟩
   . rintro σ G ⟨du,xs,o5,rfl,g,Cd,rD,hC,Xk⟩;exact⟨_,rfl,k D du xs G hD (g.same g00 hD) Cd rD hC (by omega)⟩
abbrev Ec:Stmt:=Hk 70
def Eo:FnScope ["_law_pieces","_law_k","_law_cells","_law_chain","_law_twins_here","_law_cell"] ["_law_pieces","_law_k","_law_cells"] (Al Ec):=Bl
def Xb{f:Addr}{fd:FuncData}(F:Ft K "_law_round_by" "_law_round_by" Ec f fd)(T:Hi K mg Am Ax A3 A5 A0 Ag Av A2 Ba A6 Ay Aw A4 A9 Az Ae)(C2:Has P w K mg base "_law_border" ["_law_pieces","_law_chain"] 2 (Ka K))(Vk:Has P w K mg base "_law_twins" ["_law_pieces","_law_k"] 3 (Qx K))(Fh:Has P w K mg base "_law_chain_by" ["_law_pieces","_law_k","_law_cells"] 3 (Ji K))(Ls:Has P w K mg base "_law_sum" ["_law_one","_law_number_here","_law_other"] 2 (Ps K))(Ih:Has P w K mg base "_law_number" ["_law_cell"] 1 (K0 K))(C9:Has P w K mg base "_law_pick" ["_law_cell","_law_j","_law_many"] 1 (F1 K)):B4 P w K mg base Fv 4 f fd ["_law_pieces","_law_k","_law_cells"] (Mg K):=by
 refine F.ok Eo (fun vs H Q E h=>?_) (fun C7 A outer s H vs Q E hr h=>?_)
 . obtain⟨_,_,_,_,_,rfl,_⟩:=h;rfl
 . obtain⟨a,c,k,xs,ns,rfl,hL,Tj,hsh,hS,hnl,kq⟩:=h
   refine⟨_,(Af (Aq (i:=3) Eo.nd (Ao C2 hr (Aa (pv 0) (Aa (Ao Fh hr (Aa (pv 0) (Aa (Bg Dq (pv 1) Aj) (Aa (pv 2) Ad)))) Ad))))
    (Af (Aq (i:=4) Eo.nd (Ao Vk hr (Aa (pv 0) (Aa (pv 1) Ad))))
    (Af (Br (Bb Um (As (Ar (K:=K)) T.n_len qe4 (Aa (pv 4) Ad)) Aj (Bh _)) (Ak (B3 qc3 rfl (Co (K:=K) (Fm (BQ (K:=K)) (pv 2) Jl (Gs Aj))) (A1 (i:=5) Eo.nd) (Ak (Aq (i:=3) Eo.nd (Ao Ls hr (Aa (pv 3) (Aa (Ao Ih hr (Aa (Bg Ex (pv 5) Aj) Ad)) (Aa (Bp (Bj (K:=K)) (pv 4) (Ao C9 hr (Aa (pv 5) (Aa Aj (Aa (As (Ar (K:=K)) T.n_len qe4 (Aa (pv 4) Ad)) Ad)))) (fun _ _=>rfl)) Ad)))))))) Bd)
    (Ak (A8 (pv 3)))))),?_⟩
   have h4:∀z∈xs,z.length<=4:=fun z hz=>by
    obtain⟨i,hi,e⟩:=qh1 hz;have:=(hsh i z (by rw[qa0 hi,e])).cnt;omega
   refine qt6 (fun σ' H'=>∃(D:Addr) (ms:Ms),σ'=[rS a,iS k,rS c,rS D,none,none]/\Ah H H'/\H D=none/\H' D=some (.dK (cK ms))/\nd ms/\DF xs ms/\ms.length<=16) (fun key=>?_) ?_
   . refine⟨_,rfl,_,rfl,_,rfl,_,_,rfl,rfl,_,rfl,a,c,k+1,xs,ns,rfl,hL,Tj,h4,hS,hnl,fun ms hnd Oj hml D1 H1 n1 s1 e1=>?_⟩;refine⟨a,D1,xs,ms,rfl,Rep.same s1 hL,h4,e1,Oj,by omega,fun D2 H2 n2 s2 e2=>?_⟩;have l1:=N6 (zN xs ms ms.length);have l2:=Rp h4 ms ms.length;exact key _ _ ⟨D2,_,rfl,s1.trans s2,s1.free n2,e2,U0 (Uy xs ms _),XF hsh Oj,by omega⟩
   rintro _ H1 ⟨D,ms,rfl,s1,nD,hD,hnd,Oj,hml⟩;refine qt6 (fun σ' H'=>∃(W:Addr) (us:List V),σ'=[rS a,iS k,rS c,rS D,rS W,none]/\Ah H1 H'/\H' W=some (.lst us)/\sY xs H' us) (fun key=>?_) ?_
   . exact⟨_,rfl,_,rfl,a,k,xs,rfl,Rep.same s1 hL,Tj,h4,fun W us H' s' hW tw=>key _ _ ⟨W,us,rfl,s',hW,tw⟩⟩
   rintro _ H2 ⟨W,us,rfl,s2,hW,⟨ZH,tw⟩⟩;refine qt6 (fun σ' H'=>∃(D:Addr) (ms:Ms) (o5:Option V),σ'=[rS a,iS k,rS c,rS D,rS W,o5]/\Ah H2 H'/\H D=none/\H' D=some (.dK (cK ms))/\nd ms/\DF xs ms/\ms.length<=30) (fun key=>?_) ?_
   . refine⟨_,rfl,W,_,rfl,.inl (.of hW),_,_,rfl,rfl,_,rfl,?_⟩;refine ite2 (fun h1=>?_) (fun h1=>key _ _ ⟨D,ms,none,rfl,Ah.refl _,nD,s2 _ _ hD,hnd,Oj,by omega⟩);have hpos:(0:Int)<(us.length:Int):=by simpa using h1
     have SQ:=(s1.trans s2).seq hS;refine⟨_,rfl,_,rfl,c,_,rfl,SQ,fun C hC=>?_⟩;rw[show Qh (ns.map V.int) none (some 2)=(ns.take 2).map V.int by rw[show(2:Int)=((2:Nat):Int) from rfl,Nm,qj4]];have s3:Ah H2 (upd H2 C (.lst ((ns.take 2).map V.int))):=Ah.new hC;have hC3:upd H2 C (.lst ((ns.take 2).map V.int)) C=some (.lst ((ns.take 2).map V.int)):=Ab;generalize upd H2 C (.lst ((ns.take 2).map V.int))=H3 at s3 hC3 ⊢;refine⟨C,rfl,⟨_,.of hC3⟩,?_⟩
     refine for_list (K:=K) (a:=C) (xs:=(ns.take 2).map V.int) (fun i σ G=>∃(D:Addr) (ms:Ms) (o5:Option V),σ=[rS a,iS k,rS c,rS D,rS W,o5]/\Ah H3 G/\H D=none/\G D=some (.dK (cK ms))/\nd ms/\DF xs ms/\ms.length<=16+2*i)
      ⟨D,ms,none,rfl,Ah.refl _,nD,s3 _ _ (s2 _ _ hD),hnd,Oj,by omega⟩ (fun i σ G _ ⟨_,_,_,_,g,_⟩=>.of (g _ _ hC3)) ?_ ?_
     . rintro i x σ G hx ⟨D,ms,o5,rfl,g,nD,hD,hnd,Oj,hml⟩;have hil:i<(ns.take 2).length:=by have:=(qa2.mp hx).1;simpa using this
       have hxv:x=.int (ns.take 2)[i]:=by
        rw[qa7,qa0 hil]at hx;simpa using hx.symm
       subst hxv;have hi2:i<2:=by rw[qc4]at hil;omega
       generalize (ns.take 2)[i]=cell at *;have hW3:=(s3.trans g) _ _ hW;refine⟨_,rfl,_,rfl,_,_,rfl,rfl,⟨by decide,by decide⟩,cell / 5,rfl,fun v hv0 hv1=>?_⟩;refine⟨_,rfl,_,rfl,_,rfl,W,_,rfl,.inl (.of hW3),cell,2,(us.length:Int),rfl,hpos,fun r G2 g2 r0 r1=>?_⟩;obtain⟨r',rfl⟩:=qj5 r0;have hr':r'<us.length:=by omega
       obtain⟨d,ms2,e2,hd2,VH,Ae5,hl2,hv2⟩:=tw _ (qc7 hr');have hat:Pp us (r':Int)=some (.ref d):=Dw (by rw[qa0 hr',e2]);have sg:=(s3.trans g).trans g2;refine⟨W,_,_,_,rfl,rfl,.of (g2 _ _ hW3),hat,?_⟩;refine⟨D,d,v,ms,ms2,rfl,g2 _ _ hD,sg _ _ hd2,by omega,by omega,fun p hp=>?_,fun D2 G4 n4 g4 h4'=>?_⟩
       . rcases hv2 p hp with z | z<;>rw[z]<;>exact U2 (by decide) (by decide)
       have l1:=GR ms v ms2;have all:Ah H G2:=s1.trans (s2.trans sg);exact⟨D2,_,_,rfl,(g.trans g2).trans g4,all.free n4,h4',j4 hnd v _,lS v hnd VH Oj Ae5,by omega⟩
     . rintro σ G ⟨D,ms,o5,rfl,g,nD,hD,hnd,Oj,hml⟩;rw[qa3,qc4]at hml;exact key _ _ ⟨D,ms,o5,rfl,s3.trans g,nD,hD,hnd,Oj,by omega⟩
   rintro _ H3 ⟨D,ms,o5,rfl,s3,nD,hD,hnd,Oj,hml⟩;exact⟨_,rfl,kq ms hnd Oj hml D H3 nD (s1.trans (s2.trans s3)) hD⟩
abbrev F9:Stmt:=Hk 8
def aV:FnScope ["shape","k","thing"] ["shape","k","thing"] (Al F9):=Bl
theorem BE{f:Addr}{fd:FuncData}(F:Ft K "is_chain" "is_chain" F9 f fd)(T:Hi K mg Am Ax A3 A5 A0 Ag Av A2 Ba A6 Ay Aw A4 A9 Az Ae)(Vf:Has P w K mg base "is_part" ["shape","k","place","number"] 4 (Mj K)):B4 P w K mg base Fv 5 f fd ["shape","k","thing"] (K3 K):=by
 refine F.ok aV (fun vs H Q E h=>?_) (fun C7 A outer s H vs Q E hr h=>?_)
 . obtain⟨_,_,_,_,_,rfl,_⟩:=h;rfl
 . obtain⟨a,xs,k,x,t,rfl,hL,hT,kq⟩:=h
   refine⟨_,(Af (Br (Em (Db (As (Sf (K:=K)) T.n_isinstance A7 (Aa (pv 2) (Aa (Fo (v:=.ty "dict") rfl T.n_dict Dl rfl) Ad))))) (Ak (A8 Es)) Bd)
    (Ak (A8 (As (Vb (K:=K) (by rfl)) T.n_all Zb (Aa (MG (Du (N':=["place","number","shape","k"]) (cap:=[none,none,some 0,some 1]) (by rfl) (by kernel_rfl) (X8 (pv 2)) (fun _ _ _ _=>(Dj (K:=K) (n:=2) (by rfl) (Bq (A1 (i:=0) SI) (Bq (A1 (i:=1) SI) Di)))) (fun _ _ _ _=>C4) (fun _ _ _ _=>(Ao Vf hr (Aa (pv 2) (Aa (pv 3) (Aa (pv 0) (Aa (pv 1) Ad)))))))) Ad))))),?_⟩
   rcases hT with hT|⟨rfl,b,rfl,hb⟩
   rotate_left
   . refine⟨_,rfl,_,"dict",rfl,.inr (.inr (.inr (.inr (.inr rfl)))),.inl ⟨.d (.tup []),(TI.mk (.of hb):TI K H (.ref b) []),_,rfl,?_⟩⟩;refine L7 rfl ?_;exact kq _ (Ah.refl _)
   cases t with
   | data d =>
     refine⟨_,rfl,x,"dict",rfl,.inr (.inr (.inr (.inr (.inr rfl)))),.inl ⟨.d (vD x),hT.1.rep,_,rfl,?_⟩⟩;rw[Ug hT.1];refine L7 rfl ?_;exact kq _ (Ah.refl _)
   | lst =>
     obtain⟨b,us,rfl,hb⟩:=hT;refine⟨_,rfl,_,"dict",rfl,.inr (.inr (.inr (.inr (.inr rfl)))),.inr (.inr ⟨b,us,rfl,hb,_,rfl,?_⟩)⟩;refine L7 (by decide) ?_;exact kq _ (Ah.refl _)
   | dk kvs =>
     obtain⟨b,rfl,hb,hm,hv⟩:=hT;refine⟨_,rfl,_,"dict",rfl,.inr (.inr (.inr (.inr (.inr rfl)))),.inl ⟨.dic,⟨b,kvs,rfl,.inl hb⟩,_,rfl,?_⟩⟩;refine Fx (by decide) ?_;refine .inr ⟨b,kvs,hb,fun hnd o=>?_⟩;refine⟨_,rfl,.inl ⟨b,o,kvs,rfl,Ab,fun D hD=>?_⟩⟩;obtain⟨bZ,Sn⟩:=CA hD
     refine V2 (d:=b) (o:=o) (kvs:=kvs) (fun i zs τ H1=>zs=((kvs.take i).map fun p=>Ej xs k (vD (kV p.1)) (vD p.2)).map V.bl/\H1 b=some (.frz o (.dK kvs))/\H1 D=some (.lst zs)/\Ku b H H1/\∃o1 o2,τ=[o1,o2,rS a,iS k])
      ⟨rfl,?_,Ab,?_,none,none,rfl⟩ (fun i zs τ H1 _ ⟨_,e,_⟩=>e) ?_ ?_
     . rw[Ai Sn.symm];exact Ab
     . intro c q n1 e2;rw[Ai (Ap e2 bZ),Ai n1];exact e2
     . rintro i kk x zs τ H1 p hx ⟨rfl,hb1,Fu,hk1,o1,o2,rfl⟩ hp;have hlt:i<kvs.length:=(qa2.mp hx).1;have sp:Ah H1 (upd H1 p (.tup [kV kk,x])):=Ah.new hp;refine⟨p,_,rfl,.of Ab,rfl,_,_,rfl,_,_,rfl,rfl,?_⟩;refine⟨_,rfl,_,rfl,_,rfl,_,rfl,a,xs,k,kV kk,x,_,_,rfl,Rep.same sp (Rep.x hk1 hb hL),(gJ kk).rep,(hv _ (qb5 hx)).rep,?_⟩;refine⟨sp _ _ Fu,Cb (by simp;omega),?_,?_,Ab,fun c r n1 e2=>?_,_,_,rfl⟩
       . rw[qf0,hx,qb1,qb1];rfl
       . rw[Ai Sn.symm];exact sp _ _ hb1
       . rw[Ai (fun z=>by rw[z,bZ]at e2;cases e2)];exact sp _ _ (hk1 c r n1 e2)
     . rintro zs τ H1 ⟨rfl,hb1,Fu,hk1,_⟩;rw[qb9]at Fu;refine⟨hb1,D,kvs.map fun p=>Ej xs k (vD (kV p.1)) (vD p.2),rfl,.of (by rw[Ai Sn];exact Fu),?_⟩;rw[qt5];refine kq _ fun c q e2=>?_;by_cases z:c=b
       . subst z;rw[hb]at e2;cases e2;exact Ab
       . rw[Ai z];exact hk1 c q z e2
   | odd kvs =>
     obtain⟨b,rfl,hO,hm,hv⟩:=hT;refine⟨_,rfl,_,"dict",rfl,.inr (.inr (.inr (.inr (.inr rfl)))),.inr (.inl ⟨b,kvs,rfl,hO,_,rfl,?_⟩)⟩;refine Fx (by decide) ?_;obtain⟨hsys,o,hb,yJ⟩:=hO;refine .inl ⟨_,rfl,.inr ⟨b,o,kvs,rfl,hsys,hb,yJ,fun D hD=>?_⟩⟩
     refine cQ (d:=b) (o:=o) (kvs:=kvs) (fun i zs τ H1=>zs=((kvs.take i).map fun p=>Ej xs k (vD p.1) (vD p.2)).map V.bl/\H1 D=some (.lst zs)/\Ah H H1/\∃o1 o2,τ=[o1,o2,rS a,iS k])
      ⟨rfl,Ab,Ah.new hD,none,none,rfl⟩ (fun i zs τ H1 _ ⟨_,_,s1,_⟩=>s1 _ _ hb) ?_ ?_
     . rintro i kk x zs τ H1 p hx ⟨rfl,Fu,s1,o1,o2,rfl⟩ hp;have hlt:i<kvs.length:=(qa2.mp hx).1;have sp:Ah H1 (upd H1 p (.tup [kk,x])):=Ah.new hp;obtain⟨hv1,hv2⟩:=hv _ (qb5 hx);refine⟨p,_,rfl,.of Ab,rfl,_,_,rfl,_,_,rfl,rfl,?_⟩;refine⟨_,rfl,_,rfl,_,rfl,_,rfl,a,xs,k,kk,x,_,_,rfl,Rep.same (s1.trans sp) hL,(hv1.same (s1.trans sp)).rep,hv2.rep,?_⟩;refine⟨sp _ _ Fu,Cb (by simp;omega),?_,Ab,(s1.trans sp).turn hD,_,_,rfl⟩;rw[qf0,hx,qb1,qb1];rfl
     . rintro zs τ H1 ⟨rfl,Fu,s1,_⟩;rw[qb9]at Fu;refine⟨D,kvs.map fun p=>Ej xs k (vD p.1) (vD p.2),rfl,.of Fu,?_⟩;rw[qt5];exact kq _ s1
abbrev Rb:Stmt:=Hk 46
def Gp:FnScope ["shape","left","kept","pairs","found","least","smaller"] ["shape"] (Al Rb):=Bl
theorem QL{f:Addr}{fd:FuncData}(F:Ft K "core" "core" Rb f fd)(T:Hi K mg Am Ax A3 A5 A0 Ag Av A2 Ba A6 Ay Aw A4 A9 Az Ae)(Vj:Has P w K mg base "bent" ["shape"] 2 (Tp K))(nW:Has P w K mg base "away" ["shape","thing"] 4 (Zu K)):B4 P w K mg base Fv 5 f fd ["shape"] (To K):=by
 refine F.ok Gp (fun vs H Q E h=>?_) (fun C7 A outer s H vs Q E hr h=>?_)
 . obtain⟨_,_,rfl,_⟩:=h;rfl
 . obtain⟨a,xs,rfl,hL,Xk,h4,Oj,k⟩:=h
   refine⟨_,(Af (Aq (i:=1) Gp.nd (pv 0))
    (Af (Aq (i:=2) Gp.nd (b7 (by rfl) (by rfl) T.n_list (by rfl) T.n_range (Aa (As (Ar (K:=K)) T.n_len qe4 (Aa (pv 0) Ad)) Ad)))
    (Af (Aq (i:=3) Gp.nd (Ck Ad))
    (Af (Aq (i:=4) Gp.nd (Ao Vj hr (Aa (pv 1) Ad)))
    (Af (LX qc3 (Bb Um (As (Ar (K:=K)) T.n_len qe4 (Aa (pv 4) Ad)) Aj (Bh _)) (Af (Aq (i:=5) Gp.nd (Bp (Bj (K:=K)) (pv 4) Aj (fun _ _=>rfl)))
    (Af (Cf (Gd (K:=K) qd5 qe1 qe0 C1 (pv 3) (Aa (Ch (Aa (Bp (Bj (K:=K)) (pv 2) (Bp (Bx (K:=K)) (pv 5) Aj (fun _ _=>rfl)) (fun _ _=>rfl)) (Aa (Bp (Bj (K:=K)) (pv 2) (Bp (Bx (K:=K)) (pv 5) Aj (fun _ _=>rfl)) (fun _ _=>rfl)) Ad))) Ad)))
    (Af (Aq (i:=6) Gp.nd (Ao nW hr (Aa (pv 1) (Aa (pv 5) Ad))))
    (Af (Aq (i:=1) Gp.nd (Bp (Bx (K:=K)) (pv 6) Aj (fun _ _=>rfl)))
    (Af (Aq (i:=2) Gp.nd (Du (N':=["place","kept"]) (cap:=[none,some 2]) (by rfl) (by kernel_rfl) (Co (K:=K) (Bp (Bx (K:=K)) (pv 6) Aj (fun _ _=>rfl))) (fun _ _ _ _=>(A1 (i:=0) xT)) (fun _ _ _ _=>C4) (fun _ _ _ _=>(Bp (Bj (K:=K)) (pv 1) (pv 0) (fun _ _=>rfl)))))
    (Ak (Aq (i:=4) Gp.nd (Ao Vj hr (Aa (pv 1) Ad))))))))))
    (Ak (A8 (Ch (Aa (Dc (Ou (K:=K)) (by rfl) T.n_list Pj (Aa (pv 1) Ad)) (Aa (pv 2) (Aa (pv 3) Ad))))))))))),?_⟩
   obtain⟨xu,WL,Ad9⟩:=LT.len hL;obtain⟨n,hn⟩:∃n,n=xs.length:=⟨_,rfl⟩
   refine qt6 (fun σ' H'=>σ'=[rS a,rS a,none,none,none,none,none]/\H=H') (fun key=>?_) ?_
   . exact⟨_,rfl,key _ _ ⟨rfl,rfl⟩⟩
   rintro _ _ ⟨rfl,rfl⟩;refine qt6 (fun σ' H'=>∃P:Addr,σ'=[rS a,rS a,rS P,none,none,none,none]/\Ah H H'/\H P=none/\H' P=some (.lst ((Qt n).map V.int))) (fun key=>?_) ?_
   . refine⟨_,rfl,a,xu,rfl,.inl WL,xu.length,rfl,by omega,fun P hP=>?_⟩;rw[Ad9,←hn];exact key _ _ ⟨P,rfl,Ah.new hP,hP,Ab⟩
   rintro _ H1 ⟨P,rfl,s1,nP,hP⟩;refine qt6 (fun σ' H'=>∃M:Addr,σ'=[rS a,rS a,rS P,rS M,none,none,none]/\Ah H H'/\H M=none/\P≠M/\H' P=some (.lst ((Qt n).map V.int))/\H' M=some (.lst [])) (fun key=>?_) ?_
   . refine⟨qb6 _,fun M hM=>?_⟩;have g:Ah H1 (upd H1 M (.lst [])):=Ah.new hM;exact key _ _ ⟨M,rfl,s1.trans g,s1.free hM,Ap hP hM,g _ _ hP,Ab⟩
   rintro _ H2 ⟨M,rfl,s2,nM,nPM,ZL,VP⟩;refine qt6 (fun σ' H'=>∃(F:Addr) (fu:List V),σ'=[rS a,rS a,rS P,rS M,rS F,none,none]/\Ah H2 H'/\H' F=some (.lst fu)/\Reps K H' fu ((Fs xs).map tI)) (fun key=>?_) ?_
   . refine⟨_,rfl,a,xs,rfl,Rep.same s2 hL,Xk,h4,fun F fu H' hF s' hF' rF=>?_⟩;exact key _ _ ⟨F,fu,rfl,s',hF',rF⟩
   rintro _ H3 ⟨F,fu,rfl,s3,hF,rF⟩;have eks:At n (fun _=>true)=Qt n:=nJ n;have VU:sub xs (At n (fun _=>true))=xs:=by rw[eks,hn];exact PU Oj
   have hclo:Xv xs (At n (fun _=>true)):=by rw[hn];exact HC Oj
   refine An (fun σ' H'=>∃(A P F:Addr) (mu:List V) (o5 o6:Option V) (fl:Int->Bool) (acc:LLInt),σ'=[rS a,rS A,rS P,rS M,rS F,o5,o6]/\Ah H H'/\H P=none/\LT K H' (.ref A) (sub xs (At n fl))/\H' P=some (.lst ((At n fl).map V.int))/\H' M=some (.lst mu)/\Reps K H' mu (acc.map tI)/\(∀p∈acc,p.length=2) ∧
    Gx xs (At n fl)=[]/\Xv xs (At n fl)/\D6 xs n n (fun _=>true) []=(fl,acc)) ?_ fun key=>?_
   rotate_left
   . refine⟨fun m σ G=>∃(A P F:Addr) (fu mu:List V) (o5 o6:Option V) (fl:Int->Bool) (acc:LLInt) (q:Nat),σ=[rS a,rS A,rS P,rS M,rS F,o5,o6]/\Ah H G/\H P=none/\P≠M/\LT K G (.ref A) (sub xs (At n fl))/\(∀o,LT K (upd G M (.lst o)) (.ref A) (sub xs (At n fl)))/\G P=some (.lst ((At n fl).map V.int)) ∧
      G M=some (.lst mu)/\Reps K G mu (acc.map tI)/\(∀p∈acc,p.length=2)/\G F=some (.lst fu)/\Reps K G fu ((Fs (sub xs (At n fl))).map tI)/\Xv xs (At n fl)/\(At n fl).length=m/\m<=q/\acc.length+m<=n/\D6 xs n q fl acc=D6 xs n n (fun _=>true) [],⟨n,a,P,F,fu,[],none,none,fun _=>true,[],n,rfl,s2.trans s3,nP,nPM,?_,?_,?_,s3 _ _ VP,rfl,fun p hp=>(by cases hp),hF,?_,hclo,?_,qa8 _,?_,rfl⟩,?_⟩
     . rw[VU];exact Rep.same (s2.trans s3) hL
     . intro o;rw[VU];exact Rep.same ((s2.trans s3).turn nM) hL
     . rw[eks];exact s3 _ _ ZL
     . rw[VU];exact rF
     . rw[eks,Gm]
     . simp
     rintro m σ G ⟨A,P,F,fu,mu,o5,o6,fl,acc,q,rfl,g,nP,nPM,hA,WO,hP,hM,rM,two,hF,rF,hc,hm,hmq,hal,m8⟩;have hyl:(sub xs (At n fl)).length=(At n fl).length:=Kx ..;have hkl:=BR n fl;have fl2:fu.length=(Fs (sub xs (At n fl))).length:=by have:=rF.length;simpa using this
     refine⟨_,rfl,F,_,rfl,.inl (.of hF),_,_,rfl,rfl,_,rfl,?_⟩;refine ite2 (fun h1=>?_) (fun h1=>?_);rotate_left
     . have hz:(Fs (sub xs (At n fl))).length=0:=by
        have:¬(0:Int)<(fu.length:Int):=by simpa using h1
        omega
       have hz2:Fs (sub xs (At n fl))=[]:=qp1.mp hz;have SO:Gx xs (At n fl)=[]:=by rw[←cY (Iv n fl) hc,hz2];rfl
       exact key _ _ ⟨A,P,F,mu,_,_,fl,acc,rfl,g,nP,hA,hP,hM,rM,two,SO,hc,by rw[←m8];exact Qi SO q⟩
     obtain⟨p0,r0,hb⟩:∃p0 r0,Fs (sub xs (At n fl))=p0::r0:=by
      cases hq:Fs (sub xs (At n fl)) with
      | nil =>
        exfalso
        rw[hq,qf7]at fl2;have:(0:Int)<(fu.length:Int):=by simpa using h1
        omega
      | cons p0 r0=>exact⟨p0,r0,rfl⟩
     obtain⟨i,j,rfl,i0,i1,j0,j1,⟨r',SO⟩,hrest,hc2,hcs,hss,hlt⟩:=KO hc hb;rw[hb]at rF;obtain⟨v,fu',efu,rv,_⟩:=rF;subst efu;obtain⟨av,rfl,tW⟩:=TI.sq (show TI K G v [i,j] from rv);have hv:TI K G (.ref av) [i,j]:=rv
     refine⟨fun σ' H'=>∃m',m'<m/\∃(A P F:Addr) (fu mu:List V) (o5 o6:Option V) (fl:Int->Bool) (acc:LLInt) (q:Nat),σ'=[rS a,rS A,rS P,rS M,rS F,o5,o6]/\Ah H H'/\H P=none/\P≠M/\LT K H' (.ref A) (sub xs (At n fl))/\(∀o,LT K (upd H' M (.lst o)) (.ref A) (sub xs (At n fl)))/\H' P=some (.lst ((At n fl).map V.int)) ∧
      H' M=some (.lst mu)/\Reps K H' mu (acc.map tI)/\(∀p∈acc,p.length=2)/\H' F=some (.lst fu)/\Reps K H' fu ((Fs (sub xs (At n fl))).map tI)/\Xv xs (At n fl)/\(At n fl).length=m'/\m'<=q/\acc.length+m'<=n/\D6 xs n q fl acc=D6 xs n n (fun _=>true) [],fun _ _ z=>z,?_⟩
     refine An (fun σ' H'=>σ'=[rS a,rS A,rS P,rS M,rS F,rS av,o6]/\G=H') ?_ fun Fp=>?_;rotate_left
     . refine⟨_,rfl,F,_,_,_,rfl,rfl,.of hF,(show Pp (V.ref av::fu') 0=some (.ref av) from Dw (j:=0) rfl),?_⟩;exact Fp _ _ ⟨rfl,rfl⟩
     rintro _ _ ⟨rfl,rfl⟩;generalize hki:Cy (At n fl) i=ki at SO hrest hc2 hss hlt;generalize hkj:Cy (At n fl) j=kj at SO hrest hc2 hss hlt;have ati:Pp ((At n fl).map V.int) i=some (.int ki):=by rw[←hki];exact Hh i0 i1
     have atj:Pp ((At n fl).map V.int) j=some (.int kj):=by rw[←hkj];exact Hh j0 j1
     have mul:mu.length=acc.length:=by have:=rM.length;simpa using this
     refine An (fun σ' H'=>∃zG,σ'=[rS a,rS A,rS P,rS M,rS F,rS av,o6]/\Ah H H'/\H' M=some (.lst zG)/\Reps K H' zG ((acc++[[ki,kj]]).map tI)/\TI K H' (.ref av) [i,j]/\LT K H' (.ref A) (sub xs (At n fl))/\H' P=some (.lst ((At n fl).map V.int))) ?_ fun Fp=>?_;rotate_left
     . refine⟨_,rfl,.inl ⟨rfl,_,.of hM⟩,_,rfl,_,rfl,av,_,_,_,rfl,rfl,tW,rfl,P,_,_,_,rfl,rfl,.of hP,ati,_,rfl,_,rfl,av,_,_,_,rfl,rfl,tW,rfl,P,_,_,_,rfl,rfl,.of hP,atj,Bk (by simp),fun T1 hT1=>?_⟩;have g1:Ah G (upd G T1 (.tup [.int ki,.int kj])):=Ah.new hT1;have v1:(upd G T1 (.tup [.int ki,.int kj])) T1=some (.tup [.int ki,.int kj]):=Ab
       have YM:∀o,LT K (upd (upd G T1 (.tup [.int ki,.int kj])) M (.lst o)) (.ref A) (sub xs (At n fl)):=fun o=>by
        have e:upd (upd G T1 (.tup [.int ki,.int kj])) M (.lst o)=upd (upd G M (.lst o)) T1 (.tup [.int ki,.int kj]):=by
         funext b
         have nTM:T1≠M:=(Ap hM hT1).symm;by_cases e1:b=M
         . subst e1;rw[Ab,Ai nTM.symm,Ab]
         . rw[Ai e1];by_cases e2:b=T1
           . subst e2;rw[Ab,Ab]
           . rw[Ai e2,Ai e2,Ai e1]
        rw[e];refine Rep.same (Ah.new ?_) (WO o);rw[Ai (Ap hM hT1).symm];exact hT1
       generalize upd G T1 (.tup [.int ki,.int kj])=G1 at g1 v1 YM;have aJ:=g1 _ _ hM;have sx:Dx M G1 (upd G1 M (.lst (mu++[.ref T1]))):=(Dx.refl M G1).upd;refine⟨M,_,_,rfl,rfl,aJ,Cb (by omega),?_⟩;refine Fp _ _ ⟨_,rfl,(g.trans g1).turn nM,Ab,Ew aJ (Reps.same g1 rM) (TI.mk (.of v1)),TI.t (sx.t aJ) (qn2 g1 hv),YM _,by rw[Ai nPM];exact g1 _ _ hP⟩
     rintro _ G1 ⟨zG,rfl,g1,aJ,XG,lD,hA1,YI⟩;refine An (fun σ' H'=>∃(R1 L1 P1:Addr) (us:List V),σ'=[rS a,rS A,rS P,rS M,rS F,rS av,rS R1]/\Ah G1 H'/\G1 L1=none/\H' R1=some (.tup [.ref L1,.ref P1])/\H' L1=some (.lst us)/\Reps K H' us ((sub xs (At n (without fl [ki,kj]))).map tI)/\H' P1=some (.lst ((C6 (At n fl).length [i,j]).map V.int))) ?_ fun Fp=>?_;rotate_left
     . refine⟨_,rfl,_,rfl,A,.ref av,sub xs (At n fl),i,j,rfl,hA1,by omega,Zr h4,lD,by rw[hb];exact qb2 ..,by rw[hyl];exact hcs,fun R1 L1 P1 us H' s' nL nP1 hR Wy rL yI=>?_⟩;rw[hyl]at rL yI;rw[hss]at rL;exact Fp _ _ ⟨R1,L1,P1,us,rfl,s',nL,hR,Wy,rL,yI⟩
     rintro _ G2 ⟨R1,L1,P1,us,rfl,g2,nL1,lE,Wy,WK,ZL⟩;refine An (fun σ' H'=>σ'=[rS a,rS L1,rS P,rS M,rS F,rS av,rS R1]/\G2=H') ?_ fun Fp=>?_;rotate_left
     . refine⟨_,rfl,R1,_,_,_,rfl,rfl,.of lE,rfl,?_⟩;exact Fp _ _ ⟨rfl,rfl⟩
     rintro _ _ ⟨rfl,rfl⟩;have Ai0:=g2 _ _ YI;have YJ:=g2 _ _ aJ;refine An (fun σ' H'=>∃D:Addr,σ'=[rS a,rS L1,rS D,rS M,rS F,rS av,rS R1]/\Ah G2 H'/\G2 D=none/\H' D=some (.lst ((At n (without fl [ki,kj])).map V.int))) ?_ fun Fp=>?_;rotate_left
     . refine⟨_,rfl,R1,_,_,_,rfl,rfl,.of lE,rfl,P1,rfl,⟨_,.of ZL⟩,fun D hD=>?_⟩
       refine Gk (K:=K) (a:=P1) (xs:=(C6 (At n fl).length [i,j]).map V.int) (fun t ws τ G3=>Ah G2 G3/\G3 D=some (.lst ws)/\ws=(((C6 (At n fl).length [i,j]).take t).map (Cy (At n fl))).map V.int/\∃o,τ=[o,rS P])
        ⟨Ah.new hD,Ab,rfl,none,rfl⟩ (fun t ws τ G3 _ ⟨g3,_⟩=>.of (g3 _ _ ZL)) ?_ ?_
       . rintro t x ws τ G3 hx ⟨g3,Cd,hws,o,rfl⟩;have ht:t<(C6 (At n fl).length [i,j]).length:=by have:=(qa2.mp hx).1;simpa using this
         have hxv:x=.int (C6 (At n fl).length [i,j])[t]:=by
          rw[qa7,qa0 ht]at hx;simpa using hx.symm
         subst hxv;obtain⟨x0,x1⟩:=P2 _ (qc7 ht)
         have e5:((C6 (At n fl).length [i,j]).take (t+1)).map (Cy (At n fl))=((C6 (At n fl).length [i,j]).take t).map (Cy (At n fl))++[Cy (At n fl) (C6 (At n fl).length [i,j])[t]]:=by
          rw[qf1,qa0 ht,qb1];rfl
         have hwl:ws.length<=1000:=by
          rw[hws,qa3,qa3,qc4];have:(C6 (At n fl).length [i,j]).length<=(At n fl).length:=qe5 (qi6 ..) (by rw[Gm];exact qa8 _);omega
         generalize (C6 (At n fl).length [i,j])[t]=x at x0 x1 e5;refine⟨_,rfl,_,rfl,P,_,_,_,rfl,rfl,.of (g3 _ _ Ai0),Hh x0 x1,Cd,Cb (by omega),g3.turn hD,Ab,?_,_,rfl⟩;rw[e5,qb1,hws];rfl
       . rintro ws τ G3 ⟨g3,Cd,hws,_⟩;rw[qa3,qb9,hrest]at hws;exact Fp _ _ ⟨D,rfl,g3,hD,by rw[Cd,hws]⟩
     rintro _ G3 ⟨D,rfl,g3,nD,hD3⟩;have nLM:L1≠M:=(Ap aJ nL1).symm;have nDM:D≠M:=(Ap YJ nD).symm;have LTL:∀G',Ah G2 G'->LT K G' (.ref L1) (sub xs (At n (without fl [ki,kj]))):=fun G' g'=>⟨L1,us,rfl,.of (g' _ _ Wy),Reps.same g' WK⟩
     have g13:=g1.trans (g2.trans g3);refine⟨_,rfl,L1,sub xs (At n (without fl [ki,kj])),rfl,LTL _ g3,by rw[Kx];omega,Zr h4,fun F2 fu2 G4 yL g4 Aj0 rF4=>?_⟩;have yO:=g3.trans g4;have vP:=yO _ _ YJ;obtain⟨q',rfl⟩:∃q',q=q'+1:=⟨q-1,by omega⟩
     refine⟨_,hm▸hlt,L1,D,F2,fu2,zG,_,_,without fl [ki,kj],acc++[[ki,kj]],q',rfl,g13.trans g4,g1.free (g2.free nD),nDM,LTL _ yO,fun o=>?_,g4 _ _ hD3,vP,Reps.same (g2.trans yO) XG,fun p hp=>?_,Aj0,rF4,hc2,rfl,by omega,by rw[qd1,qh3];omega,?_⟩
     . have sx:Dx M G4 (upd G4 M (.lst o)):=(Dx.refl M G4).upd;exact⟨L1,us,rfl,.of (by rw[Ai nLM];exact yO _ _ Wy),Reps.t (sx.t vP) (Qe _) (Reps.same yO WK)⟩
     . rcases qd6.mp hp with z | z
       . exact two p z
       . rw[qb7]at z;subst z;rfl
     . rw[←m8];exact(Ob SO).symm
   rintro _ H4 ⟨A,P',F',mu,o5,o6,fl,acc,rfl,s4,nP',hA,hP',vP,rM4,two,SO,hc,m8⟩;obtain⟨_,us,z,hAq,rA⟩:=id hA;cases z;refine⟨_,rfl,A,us,rfl,.inl hAq,fun L hL'=>?_⟩;have g1:Ah H4 (upd H4 L (.lst us)):=Ah.new hL';have v1:(upd H4 L (.lst us)) L=some (.lst us):=Ab;generalize upd H4 L (.lst us)=H5 at g1 v1;refine⟨_,rfl,_,rfl,Bk (by simp),fun Rr hRr=>?_⟩;have g2:=Ah.new (o:=.tup [.ref L,.ref P',.ref M]) hRr;have YO:=g1.trans g2;subst hn;refine k Rr L P' M us mu _ (s4.trans YO) (s4.free hL') nP' nM Ab (g2 _ _ v1) ?_ ?_ (YO _ _ vP) ?_ ?_ ?_ ?_
   . rw[m8];exact Reps.same YO rA
   . rw[m8];exact YO _ _ hP'
   . rw[m8];exact Reps.same YO rM4
   . rw[m8];exact SO
   . rw[m8];exact hc
   . rw[m8];exact two
abbrev Ea:Stmt:=Hk 72
def Ce:FnScope ["_law_pieces","_law_script","_law_cell","_law_k","_law_cells","_law_chain","_law_odd","_law_place"] ["_law_pieces","_law_script"] (Al Ea):=Bl
def W9{f:Addr}{fd:FuncData}(F:Ft K "_law_thing_by" "_law_thing_by" Ea f fd)(T:Hi K mg Am Ax A3 A5 A0 Ag Av A2 Ba A6 Ay Aw A4 A9 Az Ae)(M9:Has P w K mg base "_law_round_by" ["_law_pieces","_law_k","_law_cells"] 4 (Mg K))(E1:Has P w K mg base "_law_cell_at" ["_law_script","_law_k"] 1 (Hm K))(Fh:Has P w K mg base "_law_chain_by" ["_law_pieces","_law_k","_law_cells"] 3 (Ji K))(C9:Has P w K mg base "_law_pick" ["_law_cell","_law_j","_law_many"] 1 (F1 K))(Dk:Has P w K mg base "_law_trimmed" ["_law_chain"] 1 (Mf K)):B4 P w K mg base Fv 5 f fd ["_law_pieces","_law_script"] (Qy K):=by
 refine F.ok Ce (fun vs H Q E h=>?_) (fun C7 A outer s H vs Q E hr h=>?_)
 . obtain⟨_,_,_,_,rfl,_⟩:=h;rfl
 . obtain⟨a,sc,xs,ns,rfl,hL,Tj,hsh,hS,hnl,kq⟩:=h;have Gv:=hr.u8
   refine⟨_,(Af (Aq (i:=2) Ce.nd (Bg B5 (Ao E1 hr (Aa (pv 1) (Aa Aj Ad))) Aj))
    (Af (Aq (i:=3) Ce.nd (Bg B5 (Bg Ex (pv 2) Aj) Aj))
    (Af (Hq (N':=["_law_j","_law_script"]) (cap:=[none,some 1]) (i:=4) Ce.nd (by rfl) (by first | exact Or.inl rfl | exact Or.inr rfl) (by rfl) (by kernel_rfl) (B1 (by rfl) T.n_range (Aa (Bg Dq Aj (Bg B5 (Bg Ex (pv 2) Aj) Aj)) Ad)) (fun _ _ _ _=>(A1 (i:=0) uS)) (fun _ _ _ _=>C4) (fun _ _ _ _=>(Ao E1 hr (Aa (pv 1) (Aa (Bg Dq Aj (pv 0)) Ad)))))
    (Af (Aq (i:=5) Ce.nd (Ao M9 hr (Aa (pv 0) (Aa (pv 3) (Aa (pv 4) Ad)))))
    (Af (Br (Bb C0 (Bg B5 (pv 2) Aj) Aj (Bh _)) (Ak (Aq (i:=5) Ce.nd (Ao Fh hr (Aa (pv 0) (Aa (pv 3) (Aa (pv 4) Ad)))))) Bd)
    (Af (Br (Bb C0 (Bg B5 (pv 2) Aj) Aj (Bh _)) (Af (Aq (i:=6) Ce.nd (Ck (Aa (MI (u1 Gv) Es Aj) (Aa (Eg (Cw Aj Es Dt) (by rfl) (by rfl) (by intro z;cases z) (qd7 rfl)) (Aa (Eg (Cw Aj Aj Dt) (by rfl) (by rfl) (by intro z;cases z) (qd7 rfl)) (Aa (Eg (Cw (As (Ar (K:=K)) T.n_len qe4 (Aa (pv 0) Ad)) Aj Dt) (by rfl) (by rfl) (by intro z;cases z) (qd7 rfl)) (Aa (Eg (Cw (X9 Qw Aj) Aj Dt) (by rfl) (by rfl) (by intro z;cases z) (qd7 rfl)) (Aa (Eg (Cw b5 Aj Dt) (by rfl) (by rfl) (by intro z;cases z) (qd7 rfl)) (Aa (Ck Ad) (Aa b6 (Aa (Ck (Aa (Ch (Aa Aj (Aa Aj Ad))) Ad)) (Aa (Ch Ad) (Aa b5 (Aa Aj Ad))))))))))))))
    (Ak (A8 (Bp (Bj (K:=K)) (pv 6) (Bg B5 (Bg Ex (pv 2) Aj) Aj) (fun _ _=>rfl))))) Bd)
    (Af (Br (PW.pt (Rg (Bb C0 (Bg B5 (pv 2) Aj) Aj (Bh _)) (N2 (Bb Um (As (Ar (K:=K)) T.n_len qe4 (Aa (pv 0) Ad)) Aj (Bh _))))) (Af (Aq (i:=7) Ce.nd (Ao C9 hr (Aa (pv 2) (Aa Aj (Aa (As (Ar (K:=K)) T.n_len qe4 (Aa (pv 0) Ad)) Ad)))))
    (Af (Aq (i:=5) Ce.nd (Ao Dk hr (Aa (pv 5) Ad)))
    (Ak (N4 (u1 Gv) (pv 5) (pv 7) (Bg B5 (Bg Ex (pv 2) Aj) Aj) (by rfl))))) Bd)
    (Ak (A8 (pv 5)))))))))),?_⟩
   obtain⟨us,hq,ul⟩:=LT.len hL
   have h4:∀z∈xs,z.length<=4:=fun z hz=>by
    obtain⟨i,hi,e⟩:=qh1 hz;have:=(hsh i z (by rw[qa0 hi,e])).cnt;omega
   refine qt6 (fun σ' H'=>∃c:Int,σ'=[rS a,rS sc,iS c,none,none,none,none,none]/\H=H') (fun key=>?_) ?_
   . exact⟨_,rfl,sc,ns,1,rfl,hS,by decide,hnl,_,_,rfl,rfl,(by decide:(0:Int)<1000003),key _ _ ⟨_,rfl,rfl⟩⟩
   rintro _ _ ⟨c,rfl,rfl⟩;refine qt6 (fun σ' H'=>∃k:Int,σ'=[rS a,rS sc,iS c,iS k,none,none,none,none]/\H=H') (fun key=>?_) ?_
   . exact⟨_,rfl,_,_,rfl,rfl,⟨by decide,by decide⟩,_,_,rfl,rfl,(by decide:(0:Int)<4),key _ _ ⟨_,rfl,rfl⟩⟩
   rintro _ _ ⟨k,rfl,rfl⟩;refine qt6 (fun σ' H'=>∃(C:Addr) (cs:List Int),σ'=[rS a,rS sc,iS c,iS k,rS C,none,none,none]/\Ah H H'/\H' C=some (.lst (cs.map V.int))/\cs.length<=4) (fun key=>?_) ?_
   . have m0:=qh0 (c / 32) (b:=4) (by decide);have m1:=qf2 (c / 32) (b:=4) (by decide);refine⟨_,rfl,_,_,rfl,rfl,⟨by decide,by decide⟩,_,_,rfl,rfl,(by decide:(0:Int)<4),_,_,rfl,rfl,_,rfl,by omega,by omega,fun C hC=>?_⟩;refine Jr (n:=(1+c / 32%4).toNat) (fun j ys τ G=>Ah H G/\G C=some (.lst ys)/\(∃cs:List Int,ys=cs.map V.int/\cs.length=j)/\∃o,τ=[o,rS sc]) ⟨Ah.new hC,Ab,⟨[],rfl,rfl⟩,none,rfl⟩ ?_ ?_
     . rintro j ys τ G hj ⟨g,hCG,⟨cs,rfl,hcl⟩,o,rfl⟩;refine⟨_,rfl,_,rfl,_,_,rfl,rfl,sc,ns,2+(0+(j:Int)),rfl,g.seq hS,by omega,hnl,hCG,Cb (by rw[qa3];omega),g.turn hC,Ab,⟨cs++[_],by rw[qb1];rfl,by simp;omega⟩,_,rfl⟩
     . rintro ys τ G ⟨g,hCG,⟨cs,rfl,hcl⟩,_⟩;exact key _ _ ⟨C,cs,rfl,g,hCG,by omega⟩
   rintro _ H1 ⟨C,cs,rfl,s1,hC,hcl⟩;refine qt6 (fun σ' H'=>∃(D:Addr) (ms:Ms),σ'=[rS a,rS sc,iS c,iS k,rS C,rS D,none,none]/\Ah H1 H'/\H' D=some (.dK (cK ms))/\nd ms/\ms.length<=30) (fun key=>?_) ?_
   . exact⟨_,rfl,_,rfl,_,rfl,a,C,k,xs,cs,rfl,Rep.same s1 hL,Tj,hsh,.of hC,hcl,fun ms hnd Oj hml D H' nD s' hD=>key _ _ ⟨D,ms,rfl,s',hD,hnd,hml⟩⟩
   rintro _ H2 ⟨D,ms,rfl,s2,hD,hnd,hml⟩;have s02:=s1.trans s2;refine qt6 (fun σ' H'=>∃(D:Addr) (ms:Ms),σ'=[rS a,rS sc,iS c,iS k,rS C,rS D,none,none]/\Ah H H'/\H' D=some (.dK (cK ms))/\nd ms/\ms.length<=30) (fun key=>?_) ?_
   . refine⟨_,rfl,_,_,rfl,rfl,(by decide:(0:Int)<8),rfl,_,rfl,?_⟩;refine ite2 (fun _=>?_) (fun _=>key _ _ ⟨D,ms,rfl,s02,hD,hnd,hml⟩);exact⟨_,rfl,_,rfl,_,rfl,a,C,k,xs,cs,rfl,Rep.same s02 hL,Tj,h4,.of (s2 _ _ hC),hcl,fun ms hnd Oj hml D H' nD s' hD=>key _ _ ⟨D,ms,rfl,s02.trans s',hD,hnd,by omega⟩⟩
   clear hD hnd hml D ms;rintro _ H4 ⟨D,ms,rfl,uB,hD,hnd,hml⟩;refine qt6 (fun σ' H'=>σ'=[rS a,rS sc,iS c,iS k,rS C,rS D,none,none]/\H4=H') (fun key=>?_) ?_
   . refine⟨_,rfl,_,_,rfl,rfl,(by decide:(0:Int)<8),rfl,_,rfl,?_⟩;refine ite2 (fun _=>?_) (fun _=>key _ _ ⟨rfl,rfl⟩);clear key;refine fun p0 hp0=>⟨_,_,rfl,Ab,.inr (.inl ⟨true,rfl⟩),fun o0 hs0 hO0=>?_⟩
     obtain⟨s0,e0⟩:Ah H4 (upd (upd H4 p0 (.dK [])) p0 (XO p0 o0))/\(upd (upd H4 p0 (.dK [])) p0 (XO p0 o0)) p0=some (XO p0 o0):=JJ hp0;generalize (upd (upd H4 p0 (.dK [])) p0 (XO p0 o0))=G0 at s0 e0 ⊢;refine fun p1 hp1=>⟨Ab,[(.inl 0,.bl true)],rfl,by simp,?_⟩
     obtain⟨s1,e1⟩:Ah G0 (upd (upd G0 p1 (.dK [])) p1 (.dK (Bn [] [(.inl 0,.bl true)])))/\(upd (upd G0 p1 (.dK [])) p1 (.dK (Bn [] [(.inl 0,.bl true)]))) p1=some (.dK [(.inl 0,.bl true)]):=JJ hp1;generalize (upd (upd G0 p1 (.dK [])) p1 (.dK (Bn [] [(.inl 0,.bl true)])))=G1 at s1 e1 ⊢;refine fun p2 hp2=>⟨Ab,[(.inl 0,.int 0)],rfl,by simp,?_⟩
     obtain⟨s2,e2⟩:Ah G1 (upd (upd G1 p2 (.dK [])) p2 (.dK (Bn [] [(.inl 0,.int 0)])))/\(upd (upd G1 p2 (.dK [])) p2 (.dK (Bn [] [(.inl 0,.int 0)]))) p2=some (.dK (cK [(0,0)])):=JJ hp2;generalize (upd (upd G1 p2 (.dK [])) p2 (.dK (Bn [] [(.inl 0,.int 0)])))=G2 at s2 e2 ⊢;have hq2:SqL K G2 a us:=((((uB.trans s0).trans s1).trans s2)).seq hq;refine fun p3 hp3=>⟨_,rfl,a,us,rfl,.inl ((Ah.new hp3).seq hq2),Ab,[(.inl (us.length:Int),.int 1)],rfl,by simp,?_⟩
     obtain⟨s3,e3⟩:Ah G2 (upd (upd G2 p3 (.dK [])) p3 (.dK (Bn [] [(.inl (us.length:Int),.int 1)])))/\(upd (upd G2 p3 (.dK [])) p3 (.dK (Bn [] [(.inl (us.length:Int),.int 1)]))) p3=some (.dK (cK [((us.length:Int),1)])):=JJ hp3;generalize (upd (upd G2 p3 (.dK [])) p3 (.dK (Bn [] [(.inl (us.length:Int),.int 1)])))=G3 at s3 e3 ⊢;refine fun p4 ZI=>⟨_,rfl,Ab,[(.inl (-1),.int 2)],rfl,by simp,?_⟩
     obtain⟨s4,e4⟩:Ah G3 (upd (upd G3 p4 (.dK [])) p4 (.dK (Bn [] [(.inl (-1),.int 2)])))/\(upd (upd G3 p4 (.dK [])) p4 (.dK (Bn [] [(.inl (-1),.int 2)]))) p4=some (.dK (cK [(-1,2)])):=JJ ZI;generalize (upd (upd G3 p4 (.dK [])) p4 (.dK (Bn [] [(.inl (-1),.int 2)])))=G4 at s4 e4 ⊢;refine fun p5 hp5=>⟨Ab,[(.inr "0",.int 1)],rfl,by simp,?_⟩
     obtain⟨s5,e5⟩:Ah G4 (upd (upd G4 p5 (.dK [])) p5 (.dK (Bn [] [(.inr "0",.int 1)])))/\(upd (upd G4 p5 (.dK [])) p5 (.dK (Bn [] [(.inr "0",.int 1)]))) p5=some (.dK [(.inr "0",.int 1)]):=JJ hp5;generalize (upd (upd G4 p5 (.dK [])) p5 (.dK (Bn [] [(.inr "0",.int 1)])))=G5 at s5 e5 ⊢;refine⟨qb6 _,fun p6 hp6=>?_⟩;obtain⟨s6,e6⟩:Ah G5 (upd G5 p6 (.lst []))/\(upd G5 p6 (.lst [])) p6=some (.lst []):=MY hp6;generalize (upd G5 p6 (.lst []))=G6 at s6 e6 ⊢;refine⟨Bk (by simp),fun p7 hp7=>?_⟩;obtain⟨s7,e7⟩:Ah G6 (upd G6 p7 (.tup [.int 0,.int 1]))/\(upd G6 p7 (.tup [.int 0,.int 1])) p7=some (.tup [.int 0,.int 1]):=MY hp7;generalize (upd G6 p7 (.tup [.int 0,.int 1]))=G7 at s7 e7 ⊢;refine⟨Bk (by simp),fun p8 hp8=>?_⟩;obtain⟨s8,e8⟩:Ah G7 (upd G7 p8 (.lst [.ref p7]))/\(upd G7 p8 (.lst [.ref p7])) p8=some (.lst [.ref p7]):=MY hp8;generalize (upd G7 p8 (.lst [.ref p7]))=G8 at s8 e8 ⊢;refine⟨qb6 _,fun p9 hp9=>?_⟩;obtain⟨s9,e9⟩:Ah G8 (upd G8 p9 (.tup []))/\(upd G8 p9 (.tup [])) p9=some (.tup []):=MY hp9;generalize (upd G8 p9 (.tup []))=G9 at s9 e9 ⊢;refine⟨Bk (by simp),fun XM Ae7=>?_⟩;obtain⟨aI,yU⟩:Ah G9 (upd G9 XM (.lst [.ref p0,.ref p1,.ref p2,.ref p3,.ref p4,.ref p5,.ref p6,.non,.ref p8,.ref p9,.str "",.int 0]))/\(upd G9 XM (.lst [.ref p0,.ref p1,.ref p2,.ref p3,.ref p4,.ref p5,.ref p6,.non,.ref p8,.ref p9,.str "",.int 0])) XM=some (.lst [.ref p0,.ref p1,.ref p2,.ref p3,.ref p4,.ref p5,.ref p6,.non,.ref p8,.ref p9,.str "",.int 0]):=MY Ae7;generalize (upd G9 XM (.lst [.ref p0,.ref p1,.ref p2,.ref p3,.ref p4,.ref p5,.ref p6,.non,.ref p8,.ref p9,.str "",.int 0]))=G10 at aI yU ⊢;have t9:=aI;have t8:=s9.trans t9;have t7:=s8.trans t8;have t6:=s7.trans t7;have t5:=s6.trans t6;have t4:=s5.trans t5;have t3:=s4.trans t4;have t2:=s3.trans t3;have t1:=s2.trans t2;have t0:=s1.trans t1
     replace e0:=t0 _ _ e0
     replace e1:=t1 _ _ e1
     replace e2:=t2 _ _ e2
     replace e3:=t3 _ _ e3
     replace e4:=t4 _ _ e4
     replace e5:=t5 _ _ e5
     replace e6:=t6 _ _ e6
     replace e7:=t7 _ _ e7
     replace e8:=t8 _ _ e8
     replace e9:=t9 _ _ e9
     have LR:=s0.trans t0;have q0:=qh0 (c / 128) (b:=12) (by decide);have q1:=qf2 (c / 128) (b:=12) (by decide)
     obtain⟨v,h1,h2⟩:∃v,Pp ([.ref p0,.ref p1,.ref p2,.ref p3,.ref p4,.ref p5,.ref p6,.non,.ref p8,.ref p9,.str "",.int 0]:List V) (c / 128%12)=some v/\gG G10 v:=by
      rcases (show c / 128%12=0\/c / 128%12=1\/c / 128%12=2\/c / 128%12=3\/c / 128%12=4\/c / 128%12=5\/c / 128%12=6\/c / 128%12=7\/c / 128%12=8\/c / 128%12=9\/c / 128%12=10\/c / 128%12=11 by omega) with e | e | e | e | e | e | e | e | e | e | e | e
      . exact⟨.ref p0,by rw[e];rfl,.inr (.inl ⟨p0,rfl,hs0,o0,e0,hO0⟩)⟩
      . exact⟨.ref p1,by rw[e];rfl,.inr (.inr (.inl ⟨p1,rfl,.inl e1⟩))⟩
      . exact⟨.ref p2,by rw[e];rfl,.inl ⟨p2,_,rfl,e2,by simp[nd],by simp⟩⟩
      . exact⟨.ref p3,by rw[e];rfl,.inl ⟨p3,_,rfl,e3,by simp[nd],by simp⟩⟩
      . exact⟨.ref p4,by rw[e];rfl,.inl ⟨p4,_,rfl,e4,by simp[nd],by simp⟩⟩
      . exact⟨.ref p5,by rw[e];rfl,.inr (.inr (.inl ⟨p5,rfl,.inr e5⟩))⟩
      . exact⟨.ref p6,by rw[e];rfl,.inr (.inr (.inr (.inl ⟨p6,rfl,.inl e6⟩)))⟩
      . exact⟨.non,by rw[e];rfl,.inr (.inr (.inr (.inr (.inr (.inl rfl)))))⟩
      . exact⟨.ref p8,by rw[e];rfl,.inr (.inr (.inr (.inl ⟨p8,rfl,.inr ⟨p7,e8,e7⟩⟩)))⟩
      . exact⟨.ref p9,by rw[e];rfl,.inr (.inr (.inr (.inr (.inl ⟨p9,rfl,e9⟩))))⟩
      . exact⟨.str "",by rw[e];rfl,.inr (.inr (.inr (.inr (.inr (.inr (.inl rfl))))))⟩
      . exact⟨.int 0,by rw[e];rfl,.inr (.inr (.inr (.inr (.inr (.inr (.inr rfl))))))⟩
     refine⟨_,rfl,_,rfl,_,_,rfl,rfl,⟨by decide,by decide⟩,_,_,rfl,rfl,(by decide:(0:Int)<12),XM,_,_,v,rfl,rfl,.of yU,h1,?_⟩;exact kq v G10 (uB.trans LR) h2
   rintro _ _ ⟨rfl,rfl⟩;refine qt6 (fun σ' H'=>∃(D:Addr) (ms:Ms) (o7:Option V),σ'=[rS a,rS sc,iS c,iS k,rS C,rS D,none,o7]/\Ah H H'/\H' D=some (.dK (cK ms))/\nd ms/\ms.length<=40) (fun key=>?_) ?_
   . refine⟨_,rfl,_,_,rfl,rfl,(by decide:(0:Int)<8),rfl,_,rfl,?_⟩;refine ite2 (fun _=>?_) (fun _=>?_);rotate_left
     . refine Fx (by decide) ?_;exact key _ _ ⟨D,ms,none,rfl,uB,hD,hnd,by omega⟩
     refine⟨_,rfl,a,us,rfl,.inl (uB.seq hq),_,_,rfl,rfl,_,rfl,?_⟩;refine ite2 (fun h1=>?_) (fun _=>key _ _ ⟨D,ms,none,rfl,uB,hD,hnd,by omega⟩);have hpos:(0:Int)<(us.length:Int):=by simpa using h1
     refine An (fun σ' H'=>∃pl:Int,σ'=[rS a,rS sc,iS c,iS k,rS C,rS D,none,iS pl]/\Ah H4 H') ?_ fun Fp=>?_;rotate_left
     . exact⟨_,rfl,_,rfl,a,us,rfl,.inl (uB.seq hq),c,3,(us.length:Int),rfl,hpos,fun r H' s' _ _=>Fp _ _ ⟨r,rfl,s'⟩⟩
     rintro _ H5 ⟨pl,rfl,s5⟩;refine An (fun σ' H'=>∃D2:Addr,σ'=[rS a,rS sc,iS c,iS k,rS C,rS D2,none,iS pl]/\Ah H5 H'/\H5 D2=none/\H' D2=some (.dK (cK (E3 ms)))) ?_ fun Fp=>?_;rotate_left
     . exact⟨_,rfl,D,ms,rfl,s5 _ _ hD,by omega,fun D2 H' n2 s' h2=>Fp _ _ ⟨D2,rfl,s',n2,h2⟩⟩
     rintro _ H6 ⟨D2,rfl,s6,n2,Wz⟩;have lc:=N6 ms;have lp:=Qa (E3 ms) pl (c / 128%3);refine⟨_,rfl,_,_,rfl,rfl,⟨by decide,by decide⟩,_,_,rfl,rfl,(by decide:(0:Int)<3),_,rfl,_,rfl,D2,_,rfl,N8 Wz (by omega),?_⟩;exact key _ _ ⟨D2,_,_,rfl,(uB.trans s5).trans (s6.turn n2),Ab,Uz (U0 hnd) _ _,by omega⟩
   clear hD hnd hml D ms;rintro _ H5 ⟨D,ms,o7,rfl,s5,hD,hnd,hml⟩;exact⟨_,rfl,kq (.ref D) H5 s5 (.inl ⟨D,ms,rfl,hD,hnd,hml⟩)⟩
abbrev Bv:Stmt:=Hk 10
def Je:FnScope ["shape","thing","bound"] ["shape","thing","bound"] (Al Bv):=Bl
def Jf{f:Addr}{fd:FuncData}(F:Ft K "is_chain_of_some_level" "is_chain_of_some_level" Bv f fd)(T:Hi K mg Am Ax A3 A5 A0 Ag Av A2 Ba A6 Ay Aw A4 A9 Az Ae)(Rw:Has P w K mg base "is_chain" ["shape","k","thing"] 5 (K3 K)):B4 P w K mg base Fv 6 f fd ["shape","thing","bound"] (Im K):=by
 refine F.ok Je (fun vs H Q E h=>?_) (fun C7 A outer s H vs Q E hr h=>?_)
 . obtain⟨_,_,_,_,_,rfl,_⟩:=h;rfl
 . obtain⟨a,x,xs,n,t,rfl,hL,hT,hn,kq⟩:=h;refine⟨_,(Ak (A8 (As (fF (K:=K) (by rfl)) T.n_any kU (Aa (Du (N':=["k","shape","thing"]) (cap:=[none,some 0,some 1]) (by rfl) (by kernel_rfl) (B1 (by rfl) T.n_range (Aa (pv 2) Ad)) (fun _ _ _ _=>(A1 (i:=0) XU)) (fun _ _ _ _=>C4) (fun _ _ _ _=>(Ao Rw hr (Aa (pv 1) (Aa (pv 0) (Aa (pv 2) Ad)))))) Ad)))),?_⟩;refine⟨_,rfl,_,rfl,by omega,by omega,fun D hD=>?_⟩
   refine Jr (fun i zs τ H1=>Ah H H1/\H1 D=some (.lst zs)/\zs=((List.range i).map fun(k:Nat)=>Dr xs (k:Int) t).map V.bl/\∃o,τ=[o,rS a,some x])
    ⟨Ah.new hD,Ab,rfl,none,rfl⟩ ?_ ?_
   . rintro i zs τ H1 hi ⟨s1,Fu,hzs,o,rfl⟩;have hi2:i<n:=by omega
     refine⟨_,rfl,_,rfl,_,rfl,a,xs,_,x,t,rfl,Rep.same s1 hL,hT.same s1,fun H2 s2=>?_⟩;refine⟨s2 _ _ Fu,Cb (by rw[hzs,qa3,qa3,List.length_range];omega),(s1.trans s2).turn hD,Ab,?_,_,rfl⟩;rw[qm1,qb1,qb1,hzs,show((0:Int)+(i:Int))=(i:Int) by omega];rfl
   . rintro zs τ H1 ⟨s1,Fu,hzs,_⟩;rw[qd0]at hzs;refine⟨D,(List.range n).map fun(k:Nat)=>Dr xs (k:Int) t,rfl,.of (by rw[Fu,hzs]),?_⟩;rw[List.any_map];exact kq _ s1
abbrev Kd:Stmt:=Hk 36
def Nx:FnScope ["shape","chain","told","place","number"] ["shape","chain"] (Al Kd):=Bl
def IW{f:Addr}{fd:FuncData}(F:Ft K "border" "border" Kd f fd)(T:Hi K mg Am Ax A3 A5 A0 Ag Av A2 Ba A6 Ay Aw A4 A9 Az Ae)(Dd:Has P w K mg base "is_chain_of_some_level" ["shape","thing","bound"] 6 (Im K))(O8:Has P w K mg base "add_faces" ["chain","faces","number"] 2 (K4 K)):B4 P w K mg base (PN P w) 7 f fd ["shape","chain"] (K1 K Ag):=by
 refine F.okX Nx (fun vs H Q E h=>?_) (fun C7 A outer s H vs Q E hr h=>?_)
 . obtain⟨_,_,_,rfl,_⟩:=h;rfl
 . obtain⟨a,x,xs,rfl,hL,h4,hc⟩:=h;obtain⟨AM,OY⟩:=T.x_LEVELS
   refine⟨_,(Af (Br (Em (Db (Ao Dd hr (Aa (pv 0) (Aa (pv 1) (Aa (C8 (v:=.int 4) (by rfl) OY ⟨_,rfl⟩) Ad)))))) (Ak (lY jM (by rfl) (by rfl) T.m_NoChain T.e_NoChain (Aa b5 Ad))) Bd)
    (Af (Aq (i:=2) Nx.nd Er)
    (Af (LY (Le (B3 qc3 rfl (Fl (pv 1)) (Dj (K:=K) (n:=2) (by rfl) (Bq (A1 (i:=3) Nx.nd) (Bq (A1 (i:=4) Nx.nd) Di))) (Ak (Cf (Ao O8 hr (Aa (pv 2) (Aa (Bp (Bj (K:=K)) (pv 0) (pv 3) (fun _ _=>rfl)) (Aa (pv 4) Ad)))))))))
    (Ak (A8 (pv 2)))))),?_⟩
   rcases hc with⟨b,ms,kc,rfl,LD,hb,hm,hch,kq⟩|⟨⟨t,hT,hF⟩,kq⟩
   . refine⟨_,rfl,_,rfl,a,.ref b,xs,4,.dk (cK ms),rfl,hL,.inl (Gu hb hm),by decide,fun H1 s1=>?_⟩;have hany:((List.range 4).any fun(k:Nat)=>Dr xs (k:Int) (.dk (cK ms)))=true:=qj8.mpr ⟨kc,qe6.mpr LD,by rw[Ik];exact hch⟩;refine⟨_,rfl,?_⟩;rw[hany];refine Fx (by simp) ?_;have Wy:=Rep.same s1 hL;have hb1:=s1 _ _ hb;refine fun D hD=>?_;have Sn:b≠D:=Ap hb1 hD;have s2:Ah H1 (upd H1 D (.dK [])):=Ah.new hD;have hL2:=Rep.same s2 Wy;have hb2:=s2 _ _ hb1;generalize sR:upd H1 D (.dK [])=H2 at s2 hL2 hb2;have Wz:H2 D=some (.dK []):=by rw[←sR];exact Ab
     refine .inr ⟨b,cK ms,hb2,fun hnd o=>?_⟩;refine⟨_,rfl,b,o,cK ms,rfl,Ab,?_⟩
     refine Ei (d:=b) (o:=o) (kvs:=cK ms) (fun i σ G=>∃o1 o2,σ=[rS a,rS b,rS D,o1,o2]/\G b=some (.frz o (.dK (cK ms)))/\G D=some (.dK (cK (Jt xs ms i)))/\(∀c q,c≠b->c≠D->H2 c=some q->G c=some q))
      ⟨none,none,rfl,Ab,?_,?_⟩ (fun i σ G _ ⟨_,_,_,e,_⟩=>e) ?_ ?_
     . rw[Ai Sn.symm];exact Wz
     . intro c q n1 n2 e;rw[Ai n1];exact e
     . rintro i kk x σ G p hx ⟨o1,o2,rfl,Po,Cd,Mc⟩ hp;obtain⟨q,hq,rfl,rfl⟩:=Ly hx;have npb:b≠p:=Ap Po hp;have npD:D≠p:=Ap Cd hp;have hlt:i<ms.length:=(qa2.mp hq).1;have vG:ms.getD i (0,0)=q:=by rw[qa5,hq];rfl
       have hpart:=qc8.mp hch q (qb5 hq)
       have hin:0<=q.1/\q.1<(xs.length:Int):=by
        unfold gM at hpart;rw[qb4]at hpart;exact Sm hpart.1
       have sp:Ah G (upd G p (.tup [.int q.1,.int q.2])):=Ah.new hp
       have Xl:LT K G (.ref a) xs:=by
        have e1:Ku b H2 (upd H2 b (.frz o (.dK (cK ms)))):=fun c r n e=>by rw[Ai n];exact e
        have l1:=Rep.x e1 hb2 hL2;have d1:(upd H2 b (.frz o (.dK (cK ms)))) D=some (.dK []):=by rw[Ai Sn.symm];exact Wz
        have e2:Ku D (upd H2 b (.frz o (.dK (cK ms)))) G:=fun c r n e=>by
         by_cases z:c=b
         . subst z;rw[Ab]at e;cases e;exact Po
         . rw[Ai z]at e;exact Mc c r z n e
        exact Rep.x (m:=[]) e2 d1 l1
       obtain⟨us,v,YA,hat,tv⟩:=LT.get (Rep.same sp Xl) hin.1 hin.2;refine⟨p,_,rfl,.of Ab,rfl,_,_,rfl,_,_,rfl,rfl,?_⟩
       have hfl:(xs.getD q.1.toNat []).length<=4:=by
        rcases Mv (l:=xs) (i:=q.1.toNat) (d:=[]) with z | z
        . exact h4 _ z
        . rw[z];exact qb6 _
       have hbl:=Ie h4 ms i;refine⟨_,rfl,_,rfl,_,rfl,a,us,_,v,rfl,rfl,YA,hat,_,rfl,D,v,Jt xs ms i,xs.getD q.1.toNat [],q.2,rfl,sp _ _ Cd,tv,by omega,fun G2 sG2 Pa=>?_⟩;refine⟨_,_,rfl,sG2 _ _ Sn (sp _ _ Po),?_,fun c r n1 n2 e=>?_⟩
       . rw[Pa];show _=some (HO.dK (cK (gF (Jt xs ms i) (xs.getD (ms.getD i (0,0)).1.toNat []) (ms.getD i (0,0)).2)));rw[vG]
       . exact sG2 c r n2 (sp _ _ (Mc c r n1 n2 e))
     . rintro σ G ⟨o1,o2,rfl,Po,Cd,Mc⟩;rw[Hg]at Cd;refine⟨Po,_,rfl,kq D _ (s1.free hD) (fun c q e=>?_) (by rw[Ai Sn.symm];exact Cd)⟩;by_cases z:c=b
       . subst z;rw[hb]at e;cases e;exact Ab
       . rw[Ai z];exact Mc c q z (Ap (s1 _ _ e) hD) (s2 _ _ (s1 _ _ e))
   . refine⟨_,rfl,_,rfl,a,x,xs,4,t,rfl,hL,hT,by decide,fun H1 s1=>?_⟩
     have hany:((List.range 4).any fun(k:Nat)=>Dr xs (k:Int) t)=false:=by
      rw[qo6];intro k' _;rw[hF];decide
     refine⟨_,rfl,?_⟩;rw[hany];refine L7 rfl ?_;exact⟨Bk (by simp),kq H1 s1⟩
abbrev Dp:Stmt:=Hk 38
def Ml:FnScope ["shape","chain","edge"] ["shape","chain"] (Al Dp):=Bl
def Uq{f:Addr}{fd:FuncData}(F:Ft K "check_round" "check_round" Dp f fd)(T:Hi K mg Am Ax A3 A5 A0 Ag Av A2 Ba A6 Ay Aw A4 A9 Az Ae)(Kl:HasX P w K mg base "border" ["shape","chain"] 7 (K1 K Ag))(Gf:pJ P w K mg base Ae Am ["self","edge"] 1 (Ev K Ae)):B4 P w K mg base (PN P w) 8 f fd ["shape","chain"] (Q0 K Ag Ae):=by
 refine F.okX Ml (fun vs H Q E h=>?_) (fun C7 A outer s H vs Q E hr h=>?_)
 . obtain⟨_,_,_,rfl,_⟩:=h;rfl
 . obtain⟨a,x,xs,rfl,hL,h4,hc⟩:=h
   refine⟨_,(Af (Aq (i:=2) Ml.nd (P5 Rx Kl hr (by rfl) (Aa (pv 0) (Aa (pv 1) Ad))))
    (Ak (Br (Bb Um (As KQ T.n_len qe4 (Aa (pv 2) Ad)) Aj (Bh _)) (Ak (iO EV (by rfl) Gf hr (by rfl) T.m_NoRound (Aa (pv 2) Ad))) Bd))),?_⟩
   rcases hc with⟨b,ms,kc,rfl,LD,hb,hm,hch,k1,k2⟩|⟨hn,k3⟩
   rotate_left
   . exact⟨_,rfl,_,rfl,a,x,xs,rfl,hL,h4,.inr ⟨hn,k3⟩⟩
   refine qt6 (fun σ' H'=>∃D:Addr,σ'=[rS a,rS b,rS D]/\Ah H H'/\H' D=some (.dK (cK (Bi xs ms)))) (fun key=>?_) ?_
   . exact⟨_,rfl,_,rfl,a,.ref b,xs,rfl,hL,h4,.inl ⟨b,ms,kc,rfl,LD,hb,by omega,hch,fun D H' hD s hD'=>key _ _ ⟨D,rfl,s,hD'⟩⟩⟩
   rintro _ H1 ⟨D,rfl,s1,hD⟩;have lb:(Bi xs ms).length<=4*ms.length:=Ie h4 ms ms.length;refine⟨_,rfl,D,cK (Bi xs ms),rfl,hD,_,_,rfl,rfl,_,rfl,?_⟩;by_cases he:Bi xs ms=[]
   . refine Fx (by rw[he];decide) ?_;exact k1 he H1 s1
   have hpos:0<(Bi xs ms).length:=qr3.mpr he;refine L7 (by apply qd3;rw[Hg];omega) ?_;refine⟨_,rfl,Bk (by simp),fun x hx=>?_⟩;have hDx:upd H1 x (En x Ae) D=some (.dK (cK (Bi xs ms))):=by rw[Ai (Ap hD hx)];exact hD
   refine⟨x,D,Bi xs ms,rfl,Ab,hDx,Et xs ms _,by omega,fun c d hc hd=>⟨rfl,d,Ab,?_⟩⟩;obtain⟨z1,z2,z3⟩:=Z7 (fs:=[("edge",.ref c)]) s1 hx hc hd;exact k2 he d c _ z1 z2 z3
abbrev Kc:Stmt:=Hk 47
def Do:FnScope ["shape","chain","papers","left","filling","face","place","edge","number"] ["shape","chain"] (Al Kc):=Bl
def iW{f:Addr}{fd:FuncData}(F:Ft K "pushed" "pushed" Kc f fd)(T:Hi K mg Am Ax A3 A5 A0 Ag Av A2 Ba A6 Ay Aw A4 A9 Az Ae)(J1:HasX P w K mg base "check_round" ["shape","chain"] 8 (Q0 K Ag Ae))(Vh:Has P w K mg base "core" ["shape"] 5 (To K))(Kl:HasX P w K mg base "border" ["shape","chain"] 7 (K1 K Ag))(GV:Has P w K mg base "plus" ["one","other"] 2 (Zs K))(Vi:Has P w K mg base "carried" ["spots","chain"] 2 (Mh K))(n5:Has P w K mg base "times" ["number","chain"] 1 (Uc K))(Ig:Has P w K mg base "spots_of" ["things"] 1 (Jj K)):B4 P w K mg base (PN P w) 9 f fd ["shape","chain"] (Kz K Ag Ae):=by
 refine F.okX Do (fun vs H Q E h=>?_) (fun C7 A outer s H vs Q E hr h=>?_)
 . obtain⟨_,_,_,rfl,_⟩:=h;rfl
 . obtain⟨a,x,xs,rfl,hL,hsh,Tj,hc⟩:=h;have Gv:=hr.u8
   refine⟨_,(Af (Cf (P5 Rx J1 hr (by rfl) (Aa (pv 0) (Aa (pv 1) Ad))))
    (Af (Aq (i:=2) Do.nd (Ao Vh hr (Aa (pv 0) Ad)))
    (Af (Aq (i:=3) Do.nd (pv 1))
    (Af (Aq (i:=4) Do.nd Er)
    (Af (B3 PassesOwn.leaving rfl (Co (K:=K) (Bp (Bx (K:=K)) (pv 2) Aj (fun _ _=>rfl))) (Dj (K:=K) (n:=2) (by rfl) (Bq (A1 (i:=5) Do.nd) (Bq (A1 (i:=6) Do.nd) Di))) (Af (Aq (i:=7) Do.nd (P5 Rx Kl hr (by rfl) (Aa (pv 0) (Aa (Eg (Cw (pv 6) Aj Dt) (by rfl) (by rfl) (by intro z;cases z) (qd7 rfl)) Ad))))
    (Af (Aq (i:=8) Do.nd (Bg op_mulX (P4 (u1 Gv) (pv 3) (pv 5) Aj ⟨by rfl,by rfl,by rfl,by rfl⟩) (b8 (u1 Gv) (pv 7) (pv 5) (fun _ _=>rfl))))
    (Af (Aq (i:=4) Do.nd (Ao GV hr (Aa (pv 4) (Aa (Ao n5 hr (Aa (pv 8) (Aa (Eg (Cw (pv 6) Aj Dt) (by rfl) (by rfl) (by intro z;cases z) (qd7 rfl)) Ad))) Ad))))
    (Ak (Aq (i:=3) Do.nd (Ao GV hr (Aa (pv 3) (Aa (Ao n5 hr (Aa (X9 Qw (pv 8)) (Aa (pv 7) Ad))) Ad)))))))))
    (Ak (A8 (Ch (Aa (Ao Vi hr (Aa (Ao Ig hr (Aa (Bp (Bx (K:=K)) (pv 2) Aj (fun _ _=>rfl)) Ad)) (Aa (pv 3) Ad))) (Aa (pv 4) Ad)))))))))),?_⟩
   have h4:∀z∈xs,z.length<=4:=fun z hz=>by
    obtain⟨i,hi,e⟩:=qh1 hz;have:=(hsh i z (by rw[qa0 hi,e])).cnt;omega
   have Oj:∀x∈xs,∀f∈x,0<=f/\f<(xs.length:Int):=fun x hx f hf=>by
    obtain⟨i,hi,e⟩:=qh1 hx;have:=K8 hsh (by rw[qa0 hi,e]) hf;omega
   rcases hc with⟨b,ms,kc,rfl,LD,hb,hnd,hm,hch,k1,k2⟩|⟨hn,k3⟩
   rotate_left
   . exact⟨_,rfl,_,rfl,a,x,xs,rfl,hL,h4,.inr ⟨hn,k3⟩⟩
   by_cases he:Bi xs ms=[]
   rotate_left
   . exact⟨_,rfl,_,rfl,a,.ref b,xs,rfl,hL,h4,.inl ⟨b,ms,kc,rfl,LD,hb,hm,hch,fun z=>absurd z he,fun _=>k2 he⟩⟩
   have k1:=k1 he;clear k2;refine qt6 (fun σ' H'=>σ'=[rS a,rS b,none,none,none,none,none,none,none]/\Ah H H') (fun key=>?_) ?_
   . exact⟨_,rfl,_,rfl,a,.ref b,xs,rfl,hL,h4,.inl ⟨b,ms,kc,rfl,LD,hb,hm,hch,fun _ H' s'=>key _ _ ⟨rfl,s'⟩,fun z=>absurd he z⟩⟩
   rintro _ H1 ⟨rfl,s1⟩;refine qt6 (fun σ' H'=>∃(T L P M:Addr) (qu:List V),σ'=[rS a,rS b,rS T,none,none,none,none,none,none]/\Ah H H'/\H' T=some (.tup [.ref L,.ref P,.ref M])/\H' P=some (.lst ((kF xs).map V.int))/\H' M=some (.lst qu)/\Reps K H' qu (((cF xs).2).map tI)) (fun key=>?_) ?_
   . refine⟨_,rfl,a,xs,rfl,Rep.same s1 hL,by omega,h4,Oj,fun R L P M us qu H' s' nL nP nM hR hL' rL hP hM rM _ _ _=>?_⟩;exact key _ _ ⟨R,L,P,M,qu,rfl,s1.trans s',hR,hP,hM,rM⟩
   rintro _ H2 ⟨T,TL,TP,TM,qu,rfl,s2,hT,hP,hM,rM⟩;have qul:qu.length=(cF xs).2.length:=by have:=rM.length;simpa using this
   have cle:=sX xs;refine qt6 (fun σ' H'=>σ'=[rS a,rS b,rS T,rS b,none,none,none,none,none]/\H2=H') (fun key=>?_) ?_
   . exact⟨_,rfl,key _ _ ⟨rfl,rfl⟩⟩
   rintro _ _ ⟨rfl,rfl⟩;refine qt6 (fun σ' H'=>∃F:Addr,σ'=[rS a,rS b,rS T,rS b,rS F,none,none,none,none]/\Ah H2 H'/\H2 F=none/\H' F=some (.dK (cK []))) (fun key=>?_) ?_
   . exact fun F hF=>key _ _ ⟨F,rfl,Ah.new hF,hF,Ab⟩
   rintro _ H3 ⟨F,rfl,s3,nF,hF⟩;refine qt6 (fun σ' H'=>∃(l f:Addr) (o5 o6 o7 o8:Option V),σ'=[rS a,rS b,rS T,rS l,rS f,o5,o6,o7,o8]/\Ah H2 H'/\H2 f=none/\H' l=some (.dK (cK (Cv xs (cF xs).2 ms []).1))/\H' f=some (.dK (cK (Cv xs (cF xs).2 ms []).2))) (fun key=>?_) ?_
   . refine⟨_,rfl,T,_,_,_,rfl,rfl,.of (s3 _ _ hT),rfl,TM,rfl,⟨_,.of (s3 _ _ hM)⟩,?_⟩
     refine for_list (K:=K) (a:=TM) (xs:=qu) (fun i σ G=>∃(l f:Addr) (o5 o6 o7 o8:Option V),σ=[rS a,rS b,rS T,rS l,rS f,o5,o6,o7,o8]/\Ah H2 G/\H2 f=none/\G l=some (.dK (cK (Cv xs ((cF xs).2.take i) ms []).1))/\G f=some (.dK (cK (Cv xs ((cF xs).2.take i) ms []).2)))
      ⟨b,F,none,none,none,none,rfl,s3,nF,s3 _ _ (s2 _ _ hb),hF⟩ (fun i σ G _ ⟨_,_,_,_,_,_,_,g,_⟩=>.of (g _ _ hM)) ?_ ?_
     . rintro i u σ G hu ⟨l,f,o5,o6,o7,o8,rfl,g,nf,hl,hf⟩;have hi:i<qu.length:=(qa2.mp hu).1;obtain⟨d,hd,rd⟩:=rM.getV hu;rw[qa7]at hd;obtain⟨p,hp,rfl⟩:=qp8.mp hd;obtain⟨fc,q,rfl,q0,q1,hcn⟩:=Se (qb5 hp);obtain⟨au,rfl,Aa6⟩:=TI.sq (qn2 g (show TI K H2 u [fc,q] from rd));rw[IL hp];obtain⟨ll,lf⟩:=P3 h4 ((cF xs).2.take i) ms [];have tk:((cF xs).2.take i).length<=40:=by rw[qc4];omega
       simp only[qf7]at lf;generalize hPF:Cv xs ((cF xs).2.take i) ms []=PF at hl hf ll lf ⊢;refine⟨au,_,rfl,Aa6,rfl,_,_,rfl,_,_,rfl,rfl,?_⟩;have Xl:=Rep.same (s2.trans g) hL;have VI:C5 xs ((lev (Bt xs q):Nat):Int) [(q,1)]=true:=Iz.mpr ⟨fun p hp=>by rw[qb7.mp hp];exact⟨q0,q1,rfl⟩,fun p hp=>by rw[qb7.mp hp];show(1:Int)≠0;decide⟩
       have hlk:lev (Bt xs q)<4:=by
        have:=h4 _ (qb5 (Iq q0 q1));unfold lev;omega
       have eb:∀e,Be (Bi xs [(q,1)]) e=oX xs e q:=fun e=>by
        rw[Iy,Cj,Fz];show 1*oX xs e q+0=_;omega
       have sq1:=Tz hcn
       have enz:¬Be (Bi xs [(q,1)]) fc=0:=fun z=>by
        rw[eb]at z;rw[show P9 (Bt xs q) fc=0 from z]at sq1;cases sq1
       have elk:lookI (Bi xs [(q,1)]) fc=some (Be (Bi xs [(q,1)]) fc):=by
        have:=U6 (ms:=Bi xs [(q,1)]) (Ir xs [(q,1)] _) fc;rw[if_neg enz]at this;exact this
       have ZP:∀e,-(2 ^ 64)<Be (Bi xs [(q,1)]) e/\Be (Bi xs [(q,1)]) e<2 ^ 64:=fun e=>by
        rw[eb];have:=MN (Bt xs q) e (Bt xs q).length;have h4q:=h4 _ (qb5 (Iq q0 q1));show -(2 ^ 64)<Dz (Bt xs q) e (Bt xs q).length/\Dz (Bt xs q) e (Bt xs q).length<2 ^ 64;omega
       have A91:(Bi xs [(q,1)]).length<=4:=Ie h4 [(q,1)] 1;refine An (fun σ' H'=>∃(E:Addr),σ'=[rS a,rS b,rS T,rS l,rS f,iS fc,iS q,rS E,o8]/\Ah G H'/\H' E=some (.dK (cK (Bi xs [(q,1)])))) ?_ fun Fp=>?_;rotate_left
       . refine⟨_,rfl,fun d hd=>⟨_,rfl,Ab,[(.inl q,.int 1)],rfl,by simp,?_⟩⟩;have sd:Ah G (upd (upd G d (.dK [])) d (.dK (Bn [] [(.inl q,.int 1)]))):=(Ah.new hd).turn hd;have ed:upd (upd G d (.dK [])) d (.dK (Bn [] [(.inl q,.int 1)])) d=some (.dK (cK [(q,1)])):=Ab;generalize upd (upd G d (.dK [])) d (.dK (Bn [] [(.inl q,.int 1)]))=G1 at sd ed ⊢;exact⟨a,_,xs,rfl,Rep.same sd Xl,h4,.inl ⟨d,[(q,1)],lev (Bt xs q),rfl,hlk,ed,by simp,VI,fun E H' nE sE hE=>Fp _ _ ⟨E,rfl,sd.trans sE,hE⟩⟩⟩
       rintro _ G1 ⟨E,rfl,g1,hE⟩;have hl1:=g1 _ _ hl;have hf1:=g1 _ _ hf;refine An (fun σ' H'=>σ'=[rS a,rS b,rS T,rS l,rS f,iS fc,iS q,rS E,some (.int (Be PF.1 fc*Be (Bi xs [(q,1)]) fc))]/\G1=H') ?_ fun Fp=>?_;rotate_left
       . refine⟨_,rfl,l,rfl,.inl ⟨_,.inl hl1⟩,_,rfl,_,Ty (.inl hl1),_,rfl,_,rfl,E,_,rfl,x6 (.inl hE) elk,Be PF.1 fc,_,T0 _ _,rfl,U2 (ZP fc).1 (ZP fc).2,Fp _ _ ⟨rfl,rfl⟩⟩
       rintro _ _ ⟨rfl,rfl⟩;generalize hN:Be PF.1 fc*Be (Bi xs [(q,1)]) fc=N at *;refine An (fun σ' H'=>∃f2:Addr,σ'=[rS a,rS b,rS T,rS l,rS f2,iS fc,iS q,rS E,iS N]/\Ah G1 H'/\G1 f2=none/\H' f2=some (.dK (cK (Cn PF.2 (Bw N [(q,1)]))))) ?_ fun Fp=>?_;rotate_left
       . refine⟨_,rfl,_,rfl,fun d hd=>⟨_,rfl,Ab,[(.inl q,.int 1)],rfl,by simp,?_⟩⟩;have sd:Ah G1 (upd (upd G1 d (.dK [])) d (.dK (Bn [] [(.inl q,.int 1)]))):=(Ah.new hd).turn hd;have ed:upd (upd G1 d (.dK [])) d (.dK (Bn [] [(.inl q,.int 1)])) d=some (.dK (cK [(q,1)])):=Ab;generalize upd (upd G1 d (.dK [])) d (.dK (Bn [] [(.inl q,.int 1)]))=G2 at sd ed ⊢;refine⟨N,d,[(q,1)],rfl,ed,by simp,fun p hp=>?_,fun t G3 nt g3 ht=>?_⟩
         . rw[qb7.mp hp];exact U2 (by show -(2 ^ 64)<(1:Int);decide) (by show(1:Int)<2 ^ 64;decide)
         have tl:(Bw N [(q,1)]).length<=1:=by unfold Bw;split<;>simp
         have sg3:=sd.trans g3;exact⟨f,t,PF.2,Bw N [(q,1)],rfl,.inl (sg3 _ _ hf1),ht,by omega,by omega,fun f2 G4 nf2 g4 hf2=>Fp _ _ ⟨f2,rfl,sg3.trans g4,sg3.free nf2,hf2⟩⟩
       rintro _ G2 ⟨f2,rfl,g2,nf2,hf2⟩;refine⟨_,rfl,_,rfl,_,rfl,_,rfl,?_⟩;refine⟨-N,E,Bi xs [(q,1)],rfl,g2 _ _ hE,by omega,fun p hp=>?_,fun t G3 nt g3 ht=>?_⟩
       . have:=Is (Et xs [(q,1)] _) hp;rw[←this];exact U2 (ZP p.1).1 (ZP p.1).2
       have tl:(Bw (-N) (Bi xs [(q,1)])).length<=4:=by unfold Bw;split<;>simp;omega
       refine⟨l,t,PF.1,Bw (-N) (Bi xs [(q,1)]),rfl,.inl ((g2.trans g3) _ _ hl1),ht,by omega,by omega,fun l2 G4 nl2 g4 hl2=>?_⟩;exact⟨l2,f2,_,_,_,_,rfl,(((g.trans g1).trans g2).trans g3).trans g4,(g.trans g1).free nf2,hl2,(g3.trans g4) _ _ hf2⟩
     . rintro σ G ⟨l,f,o5,o6,o7,o8,rfl,g,nf,hl,hf⟩;rw[qul,qb9]at hl hf;exact key _ _ ⟨l,f,o5,o6,o7,o8,rfl,g,nf,hl,hf⟩
   rintro _ H4 ⟨l,f,o5,o6,o7,o8,rfl,s4,nf,hl,hf⟩;have PA:=GK hsh hnd hch he;obtain⟨ll,lf⟩:=P3 h4 (cF xs).2 ms [];refine⟨_,rfl,T,_,_,_,rfl,rfl,.of (s4 _ _ hT),rfl,TP,kF xs,rfl,.of (s4 _ _ hP),Iv _ _,qe5 (BR xs.length (cF xs).1) (by omega),fun Z H5 nZ s5 hZ=>?_⟩;have hl5:=s5 _ _ hl;refine⟨_,rfl,Z,l,kF xs,_,rfl,hZ,Ap hl nZ |>.symm,Iv _ _,hl5,by omega,fun p hp=>?_,fun L H6 nL s6 hL6=>?_⟩
   . by_cases z:p.1∈kF xs
     . exact z
     . have e1:=PA.out p.1 z;rw[Is PA.ndl hp]at e1;exact absurd e1 (PA.nzl p hp)
   have hf6:=(s5.trans s6) _ _ hf;refine⟨_,rfl,Bk (by simp),fun R hR=>?_⟩;have s7:=Ah.new (o:=.tup [.ref L,.ref f]) hR;have s46:=s4.trans (s5.trans s6);refine k1 R _ (s2.trans (s46.trans s7)) ⟨L,f,s2.free (s4.free (s5.free nL)),s2.free nf,Ap hf ?_ |>.symm,Ab,s7 _ _ hL6,s7 _ _ hf6⟩;exact s5.free nL
abbrev P0:Stmt:=Hk 74
def El:FnScope ["_law_script","_law_kind","_law_pieces","_law_thing","_law_handed","_law_edge","_law_marks_here","_law_found","_law_e","_law_due"] ["_law_script"] (Al P0):=Bl
theorem uM{f:Addr}{fd:FuncData}(F:Ft K "law" "law" P0 f fd)(T:Hi K mg Am Ax A3 A5 A0 Ag Av A2 Ba A6 Ay Aw A4 A9 Az Ae)(Vl:Has P w K mg base "_law_built" ["_law_kind","_law_cells","_law_most"] 4 (Q2 K))(M7:Has P w K mg base "_law_thing_by" ["_law_pieces","_law_script"] 5 (Qy K))(C2:Has P w K mg base "_law_border" ["_law_pieces","_law_chain"] 2 (Ka K))(E1:Has P w K mg base "_law_cell_at" ["_law_script","_law_k"] 1 (Hm K))(Qf:HasX P w K mg base "pushed" ["shape","chain"] 9 (Kz K Ag Ae))(n6:Has P w K mg base "pushed" ["shape","chain"] 9 (Ky K))(Dg:Has P w K mg base "_law_is_chain" ["_law_pieces","_law_thing"] 2 (Jh K))(Lu:Has P w K mg base "_law_is_push" ["_law_found","_law_told","_law_pieces","_law_chain"] 3 (O0 K))(Gf:pJ P w K mg base Ae Am ["self","edge"] 1 (Ev K Ae))(Lr:HasN P w K mg base "_law_marks" ["_law_e"] 1 (Qz K Ax A3 A5 A0 Ag Av A2 Ba A6 Ay Aw A4 A9 Az Ae))(Tw:Has P w K mg base "_law_only" ["_law_at"] 1 (Q4 K))(Vh:Has P w K mg base "core" ["shape"] 5 (To K)):B4 P w K mg base Fv 10 f fd ["_law_script"] (Zt K):=by
 refine F.ok El (fun vs H Q E h=>?_) (fun C7 A outer s H vs Q E hr h=>?_)
 . obtain⟨_,_,rfl,_⟩:=h;rfl
 . obtain⟨a,ns,rfl,hS,hl,k⟩:=h;have Gv:=hr.u8
   refine⟨_,(Af (Aq (i:=1) El.nd (Bg B5 (Ao E1 hr (Aa (pv 0) (Aa Aj Ad))) Aj))
    (Af (Aq (i:=2) El.nd (Ao Vl hr (Aa (Bg Ex (pv 1) Aj) (Aa (Fm (BQ (K:=K)) (pv 0) (Gs Aj) (Gs Aj)) (Aa (Bp (Bx (K:=K)) (Ch (Aa Aj (Aa Aj (Aa Aj (Aa Aj Ad))))) (Bg B5 (pv 1) Aj) (fun _ _=>rfl)) Ad)))))
    (Af (Aq (i:=3) El.nd (Ao M7 hr (Aa (pv 2) (Aa (pv 0) Ad))))
    (Af (Br (Bb (EE (n:=8) Gv) (iV (K:=K) (eE Gf hr (by rfl) T.m_NoRound (Aa (Eg (Cw (pv 1) Aj Dt) (by rfl) (by rfl) (by intro z;cases z) (qd7 rfl)) Ad))) (Eg (Cw (pv 1) Aj Dt) (by rfl) (by rfl) (by intro z;cases z) (qd7 rfl)) (Bh _)) (Ak (A8 Es)) Bd)
    (Af (Aq (i:=4) El.nd (pv 3))
    (Af (Br (Db (As (Sf (K:=K)) T.n_isinstance A7 (Aa (pv 3) (Aa (Fo (v:=.ty "dict") rfl T.n_dict Dl rfl) Ad)))) (Ak (Aq (i:=4) El.nd (Dc FZ (by rfl) T.n_dict Dl (Aa (pv 3) Ad)))) Bd)
    (Af (Aq (i:=5) El.nd b6)
    (Af (Aq (i:=6) El.nd (Ck Ad))
    (Af (Aq (i:=7) El.nd b6)
    (Af (UC (fun _ _=>(Ak (Aq (i:=7) El.nd (P5 cB Qf hr (by rfl) (Aa (pv 2) (Aa (pv 4) Ad))))))
    (SE (i:=8) El.nd (by rfl) (by rfl) (by rfl) T.m_NoRound T.k_NoRound (fun _=>(Af (Aq (i:=6) El.nd (BB Lr hr.n (by rfl) (Aa (pv 8) Ad)))
    (Ak (Aq (i:=5) El.nd (mH (K:=K) (pv 8))))))
    (SE (i:=8) El.nd (by rfl) (by rfl) (by rfl) T.m_HoleError T.k_HoleError (fun _=>(Ak (Aq (i:=6) El.nd (BB Lr hr.n (by rfl) (Aa (pv 8) Ad)))))
    qG)))
    (Af (Br (Bb (UJ (gS (K:=K) Gv) (uK (n:=8) Gv)) (pv 4) (pv 3) (Bh _)) (Ak (A8 Es)) Bd)
    (Af (Br (Em (Db (Ao Dg hr (Aa (pv 2) (Aa (pv 3) Ad))))) (Ak (A8 (Fn (gT (K:=K) Gv) (pv 6) (Ao Tw hr (Aa Aj Ad)) (Bh _)))) Bd)
    (Af (Aq (i:=9) El.nd (Ao C2 hr (Aa (pv 2) (Aa (pv 3) Ad))))
    (Af (Br (Bb (EE (n:=8) Gv) (pv 9) Er (Bh _)) (Ak (A8 (Lf (Fn (gT (K:=K) Gv) (pv 6) (Ao Tw hr (Aa Aj Ad)) (Bh _)) (Lf (Ao Dg hr (Aa (pv 2) (Aa (pv 5) Ad))) (Mo (Fn (Uo (n:=8) Gv) (pv 5) (pv 9) (Bh _))))))) Bd)
    (Af (Br (PW.pt (Oq (Bb (gS (K:=K) Gv) (pv 6) (Ck Ad) (Bh _)) (Mn (Em (Db (Ao Lu hr (Aa (pv 7) (Aa (Ao Vh hr (Aa (pv 2) Ad)) (Aa (pv 2) (Aa (pv 3) Ad)))))))))) (Ak (A8 Es)) Bd)
    (Af (Cf (Ya (Bp (Bx (K:=K)) (pv 7) Aj (fun _ _=>rfl))))
    (Af (Cf (Ya (Bp (Bx (K:=K)) (pv 7) Aj (fun _ _=>rfl))))
    (Ak (A8 (Lf (Fn (Uo (n:=8) Gv) (pv 4) (pv 3) (Bh _)) (Mo (Ao Lu hr (Aa (Ao n6 hr (Aa (pv 2) (Aa (pv 4) Ad))) (Aa (Ao Vh hr (Aa (pv 2) Ad)) (Aa (pv 2) (Aa (pv 3) Ad)))))))))))))))))))))))))),?_⟩
   have p4:(0:Int)<4:=by decide
   refine qt6 (fun σ' H'=>∃kind:Int,σ'=[rS a,iS kind,none,none,none,none,none,none,none,none]/\H=H') (fun key=>?_) ?_
   . refine⟨_,rfl,a,ns,0,rfl,hS,by decide,hl,_,_,rfl,rfl,(by show(0:Int)<1000003;decide),?_⟩;exact key _ _ ⟨_,rfl,rfl⟩
   rintro _ _ ⟨kind,rfl,rfl⟩;have k0:=qh0 kind (show(4:Int)≠0 by decide);have k1:=qf2 kind p4;refine qt6 (fun σ' H'=>∃(p:Addr) (us:List V) (xs:LLInt),σ'=(sL a p kind none none none none none none)/\Ah H H'/\H' p=some (.lst us)/\Reps K H' us (xs.map tI)/\B0 xs/\xs.length<=40) (fun key=>?_) ?_
   . refine⟨_,rfl,_,_,rfl,rfl,⟨by decide,by decide⟩,_,rfl,_,rfl,_,rfl,a,_,rfl,hS,fun C hC=>?_⟩;rw[oN];have s1:=Ah.new (o:=.lst ((cL ns (some 6) (some 59)).map V.int)) hC;have wO:(upd H C (.lst ((cL ns (some 6) (some 59)).map V.int))) C=some (.lst ((cL ns (some 6) (some 59)).map V.int)):=Ab;have cl1:=ON ns (some 6) (some 59);generalize cL ns (some 6) (some 59)=ms at s1 wO cl1;generalize upd H C (.lst (ms.map V.int))=H1 at s1 wO;refine⟨Bk (by simp),fun T1 hT1=>?_⟩
     obtain⟨x,hx,x0,x1⟩:∃x:Int,Pp [V.int 8,V.int 16,V.int 24,V.int 40] (kind%4)=some (.int x)/\0<=x/\x<=40:=by
      rcases (show kind%4=0\/kind%4=1\/kind%4=2\/kind%4=3 by omega) with e | e | e | e<;>rw[e]<;>exact⟨_,rfl,by decide,by decide⟩
     have s2:Ah H1 (upd H1 T1 (.tup [.int 8,.int 16,.int 24,.int 40])):=Ah.new hT1;refine⟨_,rfl,_,_,rfl,rfl,p4,T1,_,_,_,rfl,rfl,.of Ab,hx,C,ms,_,x,rfl,.of (s2 _ _ wO),by omega,x0,x1,fun p us xs H' hp s' yD r' hC Xk=>?_⟩;exact key _ _ ⟨p,us,xs,rfl,(s1.trans s2).trans s',yD,r',hC,by omega⟩
   rintro _ H1 ⟨p,us,xs,rfl,s1,hp,r1,hsh,Tj⟩
   have h4:∀z∈xs,z.length<=4:=fun z hz=>by
    obtain⟨i,hi,e⟩:=qh1 hz;have:=(hsh i z (by rw[qa0 hi,e])).cnt;omega
   have Oj:∀x∈xs,∀f∈x,0<=f/\f<(xs.length:Int):=fun x hx f hf=>by
    obtain⟨i,hi,e⟩:=qh1 hx;have:=K8 hsh (by rw[qa0 hi,e]) hf;omega
   have LP:∀G,Ah H1 G->LT K G (.ref p) xs:=fun G g=>⟨p,us,rfl,.of (g _ _ hp),Reps.same g r1⟩
   refine qt6 (fun σ' H'=>∃x:V,σ'=(sL a p kind (some x) none none none none none)/\Ah H1 H'/\gG H' x) (fun key=>?_) ?_
   . exact⟨_,rfl,_,rfl,p,a,xs,ns,rfl,LP _ (Ah.refl _),Tj,hsh,s1.seq hS,hl,fun x H' s' hd=>key _ _ ⟨x,rfl,s',hd⟩⟩
   rintro _ H2 ⟨x,rfl,s2,hdr⟩;refine qt6 (fun σ' H'=>σ'=(sL a p kind (some x) none none none none none)/\Ah H2 H') (fun key=>?_) ?_
   . refine fun d hd=>⟨_,rfl,Ab,[(.inl kind,.int 2)],rfl,by simp,?_⟩
     have sd:Ah H2 (upd (upd H2 d (.dK [])) d (.dK (Bn [] [(.inl kind,.int 2)]))):=(Ah.new hd).turn hd;have ed:upd (upd H2 d (.dK [])) d (.dK (Bn [] [(.inl kind,.int 2)])) d=some (.dK (cK [(kind,2)])):=Ab;generalize upd (upd H2 d (.dK [])) d (.dK (Bn [] [(.inl kind,.int 2)]))=G1 at sd ed ⊢;refine⟨Bk (by simp),fun e he=>⟨e,d,[(kind,2)],rfl,Ab,by rw[Ai (Ap ed he)];exact ed,by simp[nd],by simp,fun c dd hc hdd=>⟨rfl,?_⟩⟩⟩;obtain⟨z1,z2,z3⟩:=eX (fs:=[("edge",.ref c)]) he hc hdd;have z4:upd (upd (upd (upd G1 e (En e Ae)) c (.dK (cK [(kind,2)]))) dd (.xd [("edge",.ref c)])) e (madeE e Ae dd) e=some (madeE e Ae dd):=Ab;generalize upd (upd (upd (upd G1 e (En e Ae)) c (.dK (cK [(kind,2)]))) dd (.xd [("edge",.ref c)])) e (madeE e Ae dd)=G2 at z1 z2 z3 z4 ⊢;refine⟨e,Ae,dd,_,_,rfl,z4,T.x_NoRound,T.ea_NoRound_edge,z2,rfl,fun d2 hd2=>⟨_,rfl,Ab,[(.inl kind,.int 2)],rfl,by simp,?_⟩⟩;have lQ:Ah G2 (upd (upd G2 d2 (.dK [])) d2 (.dK (Bn [] [(.inl kind,.int 2)]))):=(Ah.new hd2).turn hd2;have sV:upd (upd G2 d2 (.dK [])) d2 (.dK (Bn [] [(.inl kind,.int 2)])) d2=some (.dK (cK [(kind,2)])):=Ab;generalize upd (upd G2 d2 (.dK [])) d2 (.dK (Bn [] [(.inl kind,.int 2)]))=G3 at lQ sV ⊢;refine⟨c,d2,[(kind,2)],[(kind,2)],rfl,rfl,.inl (lQ _ _ z3),.inl sV,_,rfl,?_⟩;rw[Lc (by simp[nd])];refine Fx (by decide) ?_;exact key _ _ ⟨rfl,(sd.trans z1).trans lQ⟩
   rintro _ H3 ⟨rfl,s3⟩;have DY:=s2.trans s3;refine Zq (sL a p kind (some x) (some x) none none none none) H3 (fun _ h=>⟨_,rfl,h⟩) ?_;refine qt6 (fun σ' H'=>∃y:V,σ'=(sL a p kind (some x) (some y) none none none none)/\Ah H3 H'/\((∃(b b':Addr) (ms:Ms),x=.ref b/\y=.ref b'/\H' b=some (.dK (cK ms))/\H' b'=some (.dK (cK ms))/\nd ms/\ms.length<=40)\/BadU K H' x y)) (fun key=>?_) ?_
   . rcases hdr with⟨b,ms,rfl,hb,hnd,hml⟩|⟨b,rfl,hO⟩|⟨b,rfl,hb⟩|⟨b,rfl,hb⟩|⟨b,rfl,hb⟩ | hb
     . have jW:=s3 _ _ hb;refine⟨_,rfl,_,"dict",rfl,.inr (.inr (.inr (.inr (.inr rfl)))),.inl ⟨.dic,⟨b,_,rfl,.inl jW⟩,_,rfl,?_⟩⟩;refine L7 (by decide) ?_;exact⟨_,rfl,b,rfl,.inl ⟨_,.inl jW,fun q hq=>key _ _ ⟨.ref q,rfl,Ah.new hq,.inl ⟨b,q,ms,rfl,rfl,(Ah.new hq) _ _ jW,Ab,hnd,hml⟩⟩⟩⟩
     . have hO3:=OddAt.same s3 hO;refine⟨_,rfl,_,"dict",rfl,.inr (.inr (.inr (.inr (.inr rfl)))),.inr (.inl ⟨b,_,rfl,hO3,_,rfl,?_⟩)⟩;refine L7 (by decide) ?_;exact⟨_,rfl,b,rfl,.inr ⟨hO3,fun q o hq hs ho=>key _ _ ⟨.ref q,rfl,Ah.new hq,.inr (.inl ⟨b,q,rfl,rfl,OddAt.same (Ah.new hq) hO3,hs,o,Ab,ho⟩)⟩⟩⟩
     . obtain⟨kk,v,hb,h1,h2,h3⟩:∃(kk:Key) (v:V),H2 b=some (.dK [(kk,v)])/\PY v/\lF v/\∀xs k',Ej xs k' (vD (kV kk)) (vD v)=false:=by
        rcases hb with hb | hb
        . exact⟨_,_,hb,.inr ⟨true,rfl⟩,True.intro,fun xs k'=>Yb rfl⟩
        . exact⟨_,_,hb,.inl ⟨1,rfl⟩,True.intro,fun xs k'=>Yc rfl⟩
       have jW:=s3 _ _ hb;refine⟨_,rfl,_,"dict",rfl,.inr (.inr (.inr (.inr (.inr rfl)))),.inl ⟨.dic,⟨b,_,rfl,.inl jW⟩,_,rfl,?_⟩⟩;refine L7 (by decide) ?_;exact⟨_,rfl,b,rfl,.inl ⟨_,.inl jW,fun q hq=>key _ _ ⟨.ref q,rfl,Ah.new hq,.inr (.inr (.inl ⟨b,q,kk,v,rfl,rfl,h1,h2,h3,(Ah.new hq) _ _ jW,Ab⟩))⟩⟩⟩
     . have hl3:∃us d,H3 b=some (.lst us)/\Rep K H3 (.ref b) d/\dep d<=8:=by
        rcases hb with hb|⟨c,hb,hc⟩
        . exact⟨[],.lst [],s3 _ _ hb,⟨b,[],rfl,.of (s3 _ _ hb),rfl⟩,by decide⟩
        . exact⟨_,.lst [tI [0,1]],s3 _ _ hb,⟨b,[.ref c],rfl,.of (s3 _ _ hb),_,[],rfl,(TI.mk (ns:=[0,1]) (.of (s3 _ _ hc)):TI K H3 (.ref c) [0,1]),rfl⟩,by decide⟩
       obtain⟨us,d,jW,zI,hd3⟩:=hl3;refine⟨_,rfl,_,"dict",rfl,.inr (.inr (.inr (.inr (.inr rfl)))),.inr (.inr ⟨b,us,rfl,jW,_,rfl,?_⟩)⟩;refine Fx (by decide) ?_;exact key _ _ ⟨.ref b,rfl,Ah.refl _,.inr (.inr (.inr ⟨rfl,d,.lst,zI,hd3,.inl ⟨b,us,rfl,jW⟩,True.intro,fun _ _=>rfl⟩))⟩
     . have jW:=s3 _ _ hb;have zI:TI K H3 (.ref b) []:=TI.mk (.of jW);refine⟨_,rfl,_,"dict",rfl,.inr (.inr (.inr (.inr (.inr rfl)))),.inl ⟨.d (.tup []),zI,_,rfl,?_⟩⟩;refine Fx (by decide) ?_;exact key _ _ ⟨.ref b,rfl,Ah.refl _,.inr (.inr (.inr ⟨rfl,.tup [],.lst,zI,by decide,.inr ⟨rfl,b,rfl,jW⟩,True.intro,fun _ _=>rfl⟩))⟩
     . have hsc:lF x:=by rcases hb with rfl | rfl | rfl<;>exact True.intro
       have hdp:dep (vD x)<=8:=by rcases hb with rfl | rfl | rfl<;>decide
       refine⟨_,rfl,x,"dict",rfl,.inr (.inr (.inr (.inr (.inr rfl)))),.inl ⟨.d (vD x),hsc.rep,_,rfl,?_⟩⟩;rw[Ug hsc];refine Fx (by decide) ?_;exact key _ _ ⟨x,rfl,Ah.refl _,.inr (.inr (.inr ⟨rfl,vD x,.data (vD x),hsc.rep,hdp,.inl ⟨hsc,rfl⟩,True.intro,fun _ _=>rfl⟩))⟩
   clear hdr;rintro _ H4 ⟨y,rfl,s4,hh⟩;have X5:=DY.trans s4;refine Zq (sL a p kind (some x) (some y) (some .non) none none none) H4 (fun _ h=>h) ?_;refine qt6 (fun σ' H'=>∃M:Addr,σ'=(sL a p kind (some x) (some y) (some .non) (some (.ref M)) none none)/\Ah H4 H'/\H' M=some (.lst [])) (fun key=>?_) ?_
   . exact⟨qb6 _,fun M hM=>key _ _ ⟨M,rfl,Ah.new hM,Ab⟩⟩
   rintro _ H5 ⟨M,rfl,s5,hM⟩;have AH:=X5.trans s5;refine Zq (sL a p kind (some x) (some y) (some .non) (some (.ref M)) (some .non) none) H5 (fun _ h=>h) ?_;have only:∀(G:Hp) (M':Addr) (n:Nat),G M'=some (.lst ((Mw n).map V.bl))->Rep K G (.ref M') (.lst ((Mw n).map L2.D.bl)):=fun G M' n h=>qA h;have dmk:=JZ
   have GU:(∃(b b':Addr) (ms:Ms) (kc:Nat),x=.ref b/\y=.ref b'/\H5 b=some (.dK (cK ms))/\H5 b'=some (.dK (cK ms))/\nd ms/\ms.length<=40/\kc<4/\C5 xs (kc:Int) ms=true) ∨
    (DG H5 xs y/\(∀G,Ah H5 G->∀Q:V->Hp->Prop,Q (.bl false) G->QB (LV K 8) qC y x G Q)/\∃t,Hj H5 x t/\qY t/\∀k',Dr xs k' t=false):=by
    rcases hh with⟨b,b',ms,rfl,rfl,hb,hb',hnd,hml⟩ | hbad
    . have hb5:=s5 _ _ hb;have VN:=s5 _ _ hb';by_cases hq:∃kc:Nat,kc<4/\C5 xs (kc:Int) ms=true
      . obtain⟨kc,h1,h2⟩:=hq;exact .inl ⟨b,b',ms,kc,rfl,rfl,hb5,VN,hnd,hml,h1,h2⟩
      . refine .inr ⟨⟨_,.inl (Gu VN (by omega)),CQ h4 hq⟩,fun G g Q q=>.inr ⟨b',b,rfl,rfl,.inl ⟨ms,ms,.inl (g _ _ VN),.inl (g _ _ hb5),?_⟩⟩,_,.inl (Gu hb5 (by omega)),True.intro,CQ h4 hq⟩;rw[Lc hnd];exact q
    . have nV:=hbad.same s5;obtain⟨t,h1,h2,h3⟩:=nV.thing;exact .inr ⟨nV.no xs,fun G g Q q=>(nV.same g).ne q,t,h1,h2,h3 xs⟩
   clear hh;rcases GU with⟨b,b',ms,kc,rfl,rfl,hb,hb',hnd,hml,hkc,hch⟩|⟨Af4,Af5,t,ht5,hpl,hno⟩
   rotate_left
   . -- no chain
     refine qt6 (fun σ' H'=>∃M:Addr,σ'=(sL a p kind (some x) (some y) (some .non) (some (.ref M)) (some .non) none)/\Ah H5 H'/\H' M=some (.lst ((Mw 5).map V.bl))) (fun key=>?_) ?_
     . refine⟨_,rfl,_,rfl,p,y,xs,rfl,LP _ AH,hsh,Tj,.inr ⟨Af4,fun H6 s6=>?_⟩⟩;refine⟨Ag,false,rfl,T.s_NoChain_NoRound,?_⟩;refine Fx (by decide) ?_;refine⟨Ag,true,rfl,T.s_NoChain_HoleError,?_⟩;refine L7 rfl fun e he=>?_;have s7:Ah H6 (upd H6 e (excX e (.ref Ag) none)):=Ah.new he;have e7:upd H6 e (excX e (.ref Ag) none) e=some (excX e (.ref Ag) none):=Ab;generalize upd H6 e (excX e (.ref Ag) none)=H7 at s7 e7 ⊢;refine⟨_,rfl,e,Ag,none,5,rfl,e7,⟨T.x_NoChain,T.iv_NoChain,NC T.i_NoChain_NoShape T.i_NoChain_NoText T.i_NoChain_NoName T.i_NoChain_NoLevel T.i_NoChain_NoChain T.i_NoChain_NoTable T.i_NoChain_NoTurn T.i_NoChain_NoMap T.i_NoChain_NoGlue T.i_NoChain_NoPrime T.i_NoChain_NoStage T.i_NoChain_NoPair T.i_NoChain_NoRow T.i_NoChain_NoPiece T.i_NoChain_NoRound⟩,fun M' H8 s8 hM'=>?_⟩;exact key _ _ ⟨M',rfl,(s6.trans s7).trans s8,hM'⟩
     rintro _ H6 ⟨M',rfl,s6,hM6⟩;refine qt6 (fun σ' H'=>σ'=(sL a p kind (some x) (some y) (some .non) (some (.ref M')) (some .non) none)/\H6=H') (fun key=>?_) ?_
     . refine⟨_,rfl,_,rfl,Af5 _ s6 _ ⟨_,rfl,?_⟩⟩;refine Fx (by decide) ?_;exact key _ _ ⟨rfl,rfl⟩
     rintro _ _ ⟨rfl,rfl⟩;have ht:=ht5.same s6;refine⟨_,rfl,_,rfl,p,x,xs,t,rfl,LP _ (AH.trans s6),h4,ht,hpl,fun c H7 s7 hc=>?_⟩
     have:c=false:=by
      cases c with
      | false=>rfl
      | true =>
        obtain⟨k',_,z⟩:=hc.mp rfl;rw[hno]at z;cases z
     subst this;refine⟨_,rfl,?_⟩;refine L7 rfl ?_;refine⟨_,rfl,5,rfl,fun N H8 s8 hN=>?_⟩;rw[show BC 5=Mw 5 from Ye 5]at hN;refine⟨_,_,only _ _ _ ((s7.trans s8) _ _ hM6),only _ _ _ hN,dmk 5,?_⟩;rw[Kp];exact k _
   obtain⟨VI,hz⟩:=Iz.mp hch;have lz:=Rp h4 ms ms.length;have lz2:=N6 (zN xs ms ms.length);have neq:∀(G:Hp) (Q:V->Hp->Prop),G b=some (.dK (cK ms))->G b'=some (.dK (cK ms))->Q (.bl false) G->QB (LV K 8) qC (.ref b') (.ref b) G Q:=fun G Q h1 h2 q=>.inr ⟨b',b,rfl,rfl,.inl ⟨ms,ms,.inl h2,.inl h1,by rw[Lc hnd];exact q⟩⟩;have VB:∀(G:Hp) (d:Addr) (cs:Ms) (c:Bool),(∃j:Nat,j<4/\C5 xs (j:Int) cs=true)->(c=true↔∃k:Nat,k<4/\Dr xs (k:Int) (.dk (cK cs))=true)->c=true:=fun G d cs c ⟨j,h1,h2⟩ hc=>hc.mpr ⟨j,h1,by rw[Ik];exact h2⟩;by_cases hbd:Bi xs ms=[]
   rotate_left
   . -- a border
     refine qt6 (fun σ' H'=>∃M c:Addr,σ'=(sL a p kind (some (.ref b)) (some (.ref b')) (some (.ref c)) (some (.ref M)) (some .non) none)/\Ah H5 H'/\H' M=some (.lst ((Mw 15).map V.bl))/\H' c=some (.dK (cK (Bi xs ms)))) (fun key=>?_) ?_
     . refine⟨_,rfl,_,rfl,p,.ref b',xs,rfl,LP _ AH,hsh,Tj,.inl ⟨b',ms,kc,rfl,hkc,hb',hnd,by omega,hch,fun z=>absurd z hbd,fun _ d c H6 s6 hd6 hc6=>?_⟩⟩;refine⟨Ae,true,rfl,T.s_NoRound_NoRound,?_⟩;refine L7 rfl fun e he=>?_;have s7:Ah H6 (upd H6 e (excX e (.ref Ae) (some d))):=Ah.new he;have e7:upd H6 e (excX e (.ref Ae) (some d)) e=some (excX e (.ref Ae) (some d)):=Ab;generalize upd H6 e (excX e (.ref Ae) (some d))=H7 at s7 e7 ⊢;refine⟨_,rfl,e,Ae,some d,15,rfl,e7,⟨T.x_NoRound,T.iv_NoRound,NC T.i_NoRound_NoShape T.i_NoRound_NoText T.i_NoRound_NoName T.i_NoRound_NoLevel T.i_NoRound_NoChain T.i_NoRound_NoTable T.i_NoRound_NoTurn T.i_NoRound_NoMap T.i_NoRound_NoGlue T.i_NoRound_NoPrime T.i_NoRound_NoStage T.i_NoRound_NoPair T.i_NoRound_NoRow T.i_NoRound_NoPiece T.i_NoRound_NoRound⟩,fun M' H8 s8 hM'=>?_⟩;refine⟨_,rfl,e,Ae,d,_,_,rfl,s8 _ _ e7,T.x_NoRound,T.ea_NoRound_edge,(s7.trans s8) _ _ hd6,rfl,?_⟩;exact key _ _ ⟨M',c,rfl,(s6.trans s7).trans s8,hM',(s7.trans s8) _ _ hc6⟩
     rintro _ H6 ⟨M',c,rfl,s6,hM6,hc6⟩;have vN:=s6 _ _ hb;refine qt6 (fun σ' H'=>σ'=(sL a p kind (some (.ref b)) (some (.ref b')) (some (.ref c)) (some (.ref M')) (some .non) none)/\H6=H') (fun key=>?_) ?_
     . refine⟨_,rfl,_,rfl,neq _ _ vN (s6 _ _ hb') ⟨_,rfl,?_⟩⟩;refine Fx (by decide) ?_;exact key _ _ ⟨rfl,rfl⟩
     rintro _ _ ⟨rfl,rfl⟩;refine qt6 (fun σ' H'=>σ'=(sL a p kind (some (.ref b)) (some (.ref b')) (some (.ref c)) (some (.ref M')) (some .non) none)/\Ah H6 H') (fun key=>?_) ?_
     . refine⟨_,rfl,_,rfl,p,.ref b,xs,.dk (cK ms),rfl,LP _ (AH.trans s6),h4,.inl (Gu vN (by omega)),True.intro,fun c H7 s7 hc=>?_⟩;obtain rfl:=VB H7 b ms c ⟨kc,hkc,hch⟩ hc;refine⟨_,rfl,?_⟩;refine Fx (by decide) ?_;exact key _ _ ⟨rfl,s7⟩
     rintro _ H7 ⟨rfl,s7⟩;have s17:=(AH.trans s6).trans s7;refine qt6 (fun σ' H'=>∃D:Addr,σ'=(sL a p kind (some (.ref b)) (some (.ref b')) (some (.ref c)) (some (.ref M')) (some .non) (some (.ref D)))/\Ah H7 H'/\H' D=some (.dK (cK (E3 (zN xs ms ms.length))))) (fun key=>?_) ?_
     . exact⟨_,rfl,_,rfl,p,b,xs,ms,rfl,LP _ s17,h4,s7 _ _ vN,VI.rg,by omega,fun D H' nD s' hD=>key _ _ ⟨D,rfl,s',hD⟩⟩
     rintro _ H8 ⟨D,rfl,s8,hD⟩;refine⟨_,rfl,fun d hd=>?_⟩;have s9:Ah H8 (upd H8 d (.dK [])):=Ah.new hd;have e9:upd H8 d (.dK []) d=some (.dK (cK [])):=Ab;generalize upd H8 d (.dK [])=H9 at s9 e9 ⊢;refine⟨D,d,_,[],rfl,rfl,.inl (s9 _ _ hD),.inl e9,_,rfl,?_⟩;rw[WT hbd];refine L7 (by decide) ?_;have UA:=(s7.trans s8).trans s9;refine⟨_,rfl,15,rfl,fun N H10 aI hN=>?_⟩;rw[show BC 15=Mw 15 from Ye 15]at hN;refine⟨_,_,only _ _ _ ((UA.trans aI) _ _ hM6),only _ _ _ hN,dmk 15,?_⟩;rw[Kp];refine⟨_,rfl,?_⟩;refine L7 rfl ?_;have yG:=(UA.trans aI) _ _ hc6;have lb:(Bi xs ms).length<=4*ms.length:=Ie h4 ms ms.length;refine⟨_,rfl,_,rfl,p,.ref c,xs,.dk (cK (Bi xs ms)),rfl,LP _ ((AH.trans s6).trans (UA.trans aI)),h4,.inl (Gu yG (by omega)),True.intro,fun cc zU pZ hcc=>?_⟩;obtain rfl:=VB zU c _ cc (GA hsh hkc VI) hcc;refine⟨_,rfl,?_⟩;refine L7 rfl ?_;refine⟨_,rfl,_,rfl,c,D,_,_,rfl,rfl,.inl (pZ _ _ yG),.inl ((s9.trans (aI.trans pZ)) _ _ hD),?_⟩;rw[pO];exact k _
   refine qt6 (fun σ' H'=>∃R:Addr,σ'=(sL a p kind (some (.ref b)) (some (.ref b')) (some .non) (some (.ref M)) (some (.ref R)) none)/\Ah H5 H'/\Jc xs ms H5 H' R) (fun key=>?_) ?_
   . exact⟨_,rfl,_,rfl,p,.ref b',xs,rfl,LP _ AH,hsh,Tj,.inl ⟨b',ms,kc,rfl,hkc,hb',hnd,by omega,hch,fun _ R H6 s6 pt=>key _ _ ⟨R,rfl,s6,pt⟩,fun z=>absurd hbd z⟩⟩
   rintro _ H6 ⟨R,rfl,s6,pt6⟩;have vN:=s6 _ _ hb;refine qt6 (fun σ' H'=>σ'=(sL a p kind (some (.ref b)) (some (.ref b')) (some .non) (some (.ref M)) (some (.ref R)) none)/\H6=H') (fun key=>?_) ?_
   . refine⟨_,rfl,_,rfl,neq _ _ vN (s6 _ _ hb') ⟨_,rfl,?_⟩⟩;refine Fx (by decide) ?_;exact key _ _ ⟨rfl,rfl⟩
   rintro _ _ ⟨rfl,rfl⟩;refine qt6 (fun σ' H'=>σ'=(sL a p kind (some (.ref b)) (some (.ref b')) (some .non) (some (.ref M)) (some (.ref R)) none)/\Ah H6 H') (fun key=>?_) ?_
   . refine⟨_,rfl,_,rfl,p,.ref b,xs,.dk (cK ms),rfl,LP _ (AH.trans s6),h4,.inl (Gu vN (by omega)),True.intro,fun c H7 s7 hc=>?_⟩;obtain rfl:=VB H7 b ms c ⟨kc,hkc,hch⟩ hc;refine⟨_,rfl,?_⟩;refine Fx (by decide) ?_;exact key _ _ ⟨rfl,s7⟩
   rintro _ H7 ⟨rfl,s7⟩;have s17:=(AH.trans s6).trans s7;refine qt6 (fun σ' H'=>∃D:Addr,σ'=(sL a p kind (some (.ref b)) (some (.ref b')) (some .non) (some (.ref M)) (some (.ref R)) (some (.ref D)))/\Ah H7 H'/\H' D=some (.dK (cK []))) (fun key=>?_) ?_
   . refine⟨_,rfl,_,rfl,p,b,xs,ms,rfl,LP _ s17,h4,s7 _ _ vN,VI.rg,by omega,fun D H' nD s' hD=>key _ _ ⟨D,rfl,s',?_⟩⟩;rw[tK hbd]at hD;exact hD
   rintro _ H8 ⟨D,rfl,s8,hD⟩;refine qt6 (fun σ' H'=>σ'=(sL a p kind (some (.ref b)) (some (.ref b')) (some .non) (some (.ref M)) (some (.ref R)) (some (.ref D)))/\Ah H8 H') (fun key=>?_) ?_
   . refine⟨_,rfl,fun d hd=>?_⟩;have s9:Ah H8 (upd H8 d (.dK [])):=Ah.new hd;have e9:upd H8 d (.dK []) d=some (.dK (cK [])):=Ab;generalize upd H8 d (.dK [])=H9 at s9 e9 ⊢;refine⟨D,d,[],[],rfl,rfl,.inl (s9 _ _ hD),.inl e9,_,rfl,?_⟩;refine Fx (by decide) ?_;exact key _ _ ⟨rfl,s9⟩
   rintro _ H9 ⟨rfl,s9⟩;have UA:=(s7.trans s8).trans s9;have xF:=s6.trans UA;refine qt6 (fun σ' H'=>σ'=(sL a p kind (some (.ref b)) (some (.ref b')) (some .non) (some (.ref M)) (some (.ref R)) (some (.ref D)))/\Ah H9 H') (fun key=>?_) ?_
   . refine⟨_,rfl,qb6 _,fun N hN=>?_⟩;have aI:Ah H9 (upd H9 N (.lst [])):=Ah.new hN;have yU:upd H9 N (.lst []) N=some (.lst []):=Ab;generalize upd H9 N (.lst [])=H10 at aI yU ⊢;have Ai5:=(xF.trans aI) _ _ hM;refine⟨.lst [],.lst [],⟨M,[],rfl,.of Ai5,rfl⟩,⟨N,[],rfl,.of yU,rfl⟩,by decide,_,rfl,?_⟩;refine Fx (by decide) ?_;refine⟨_,rfl,_,rfl,p,xs,rfl,LP _ (AH.trans (xF.trans aI)),by omega,h4,Oj,fun T1 L1 P1 M1 ZU qu1 zU pZ _ _ _ lE Wy WK YI aJ XG _ _ _=>?_⟩;have ct:Ww K xs zU T1:=⟨L1,P1,M1,ZU,qu1,lE,Wy,WK,YI,aJ,XG⟩
     refine⟨_,rfl,_,rfl,R,T1,p,b,xs,ms,kc,H5,rfl,pt6.same (UA.trans (aI.trans pZ)),ct,LP _ (AH.trans (xF.trans (aI.trans pZ))),hsh,Tj,(xF.trans (aI.trans pZ)) _ _ hb,hnd,by omega,hkc,hch,hbd,fun H12 s12=>?_⟩;refine⟨_,rfl,?_⟩;refine Fx (by decide) ?_;exact key _ _ ⟨rfl,(aI.trans pZ).trans s12⟩
   rintro _ H10 ⟨rfl,aI⟩;have Ab0:=xF.trans aI;obtain⟨L,F,nL,nF,nLF,hR,RH,wN⟩:=pt6.same (UA.trans aI);refine qt6 (fun σ' H'=>σ'=(sL a p kind (some (.ref b)) (some (.ref b')) (some .non) (some (.ref M)) (some (.ref R)) (some (.ref D)))/\Ah H5 H'/\H' R=some (.tup [.ref L,.ref F])/\H' F=some (.dK (cK (Cv xs (cF xs).2 ms []).2))) (fun key=>?_) ?_
   . have nRL:R≠L:=fun z=>by rw[z,RH]at hR;cases hR
     exact⟨_,rfl,R,_,_,_,rfl,rfl,.of hR,rfl,L,_,rfl,RH,key _ _ ⟨rfl,Ab0.turn nL,by rw[Ai nRL];exact hR,by rw[Ai nLF.symm];exact wN⟩⟩
   rintro _ zU ⟨rfl,pZ,Ah9,Aj1⟩;refine qt6 (fun σ' H'=>σ'=(sL a p kind (some (.ref b)) (some (.ref b')) (some .non) (some (.ref M)) (some (.ref R)) (some (.ref D)))/\Ah H5 H') (fun key=>?_) ?_
   . exact⟨_,rfl,R,_,_,_,rfl,rfl,.of Ah9,rfl,F,_,rfl,Aj1,key _ _ ⟨rfl,pZ.turn nF⟩⟩
   rintro _ H12 ⟨rfl,s12⟩;refine⟨_,rfl,_,rfl,b',b,ms,ms,rfl,rfl,.inl (s12 _ _ hb'),.inl (s12 _ _ hb),?_⟩;rw[Lc hnd];refine⟨_,rfl,?_⟩;refine L7 rfl ?_;refine⟨_,rfl,_,rfl,p,xs,b',ms,kc,rfl,LP _ (AH.trans s12),hsh,Tj,hkc,s12 _ _ hb',hnd,by omega,hch,hbd,fun R2 H13 DY pt=>?_⟩;refine⟨_,rfl,p,xs,rfl,LP _ (AH.trans (s12.trans DY)),by omega,h4,Oj,fun T1 L1 P1 M1 ZU qu1 H14 X5 _ _ _ lE Wy WK YI aJ XG _ _ _=>?_⟩;have ct:Ww K xs H14 T1:=⟨L1,P1,M1,ZU,qu1,lE,Wy,WK,YI,aJ,XG⟩
   refine⟨_,rfl,_,rfl,R2,T1,p,b,xs,ms,kc,H12,rfl,pt.same X5,ct,LP _ (AH.trans (s12.trans (DY.trans X5))),hsh,Tj,(s12.trans (DY.trans X5)) _ _ hb,hnd,by omega,hkc,hch,hbd,fun H15 Aw2=>k _⟩
end
theorem Nk{α:Type}{P:List α->Prop}(h:∀a0,P [a0])(us:List α)(hl:us.length=1):P us:=by
 cases us with
 | nil=>exact nomatch hl
 | cons a0 u0 =>
   cases u0 with
   | nil=>exact h a0
   | cons _ _=>simp at hl
theorem Ek{α:Type}{P:List α->Prop}(h:∀a0 a1,P [a0,a1])(us:List α)(hl:us.length=2):P us:=by
 cases us with
 | nil=>exact nomatch hl
 | cons a0 u0 =>
   cases u0 with
   | nil=>exact nomatch hl
   | cons a1 u1 =>
     cases u1 with
     | nil=>exact h a0 a1
     | cons _ _=>simp at hl
theorem Jq{α:Type}{P:List α->Prop}(h:∀a0 a1 a2,P [a0,a1,a2])(us:List α)(hl:us.length=3):P us:=by
 cases us with
 | nil=>exact nomatch hl
 | cons a0 u0 =>
   cases u0 with
   | nil=>exact nomatch hl
   | cons a1 u1 =>
     cases u1 with
     | nil=>exact nomatch hl
     | cons a2 u2 =>
       cases u2 with
       | nil=>exact h a0 a1 a2
       | cons _ _=>simp at hl
theorem sU{α:Type}{P:List α->Prop}(h:∀a0 a1 a2 a3,P [a0,a1,a2,a3])(us:List α)(hl:us.length=4):P us:=by
 cases us with
 | nil=>exact nomatch hl
 | cons a0 u0 =>
   cases u0 with
   | nil=>exact nomatch hl
   | cons a1 u1 =>
     cases u1 with
     | nil=>exact nomatch hl
     | cons a2 u2 =>
       cases u2 with
       | nil=>exact nomatch hl
       | cons a3 u3 =>
         cases u3 with
         | nil=>exact h a0 a1 a2 a3
         | cons _ _=>simp at hl
set_option maxHeartbeats 4000000 in
abbrev zqS(K:W.Frag)(s:Str)(a:Addr):Prop:=W.nsIn K mainGlobals s=some (some (.ref a))
abbrev zqN(K:W.Frag)(s:Str):Prop:=W.nsIn K mainGlobals s=some none
abbrev zqK(K:W.Frag)(a b:Addr)(v:Bool):Prop:=PySem.W.kitOne K (.ref a) (.ref b)=some v
abbrev zqL(K:W.Frag)(f:Addr)(e:Value)(o:OAddr)(x y:Str)(s:Stmt)(v0 v1 v2:Value)(g:OAddr)(v3 v4:Value)(b:Bs):Prop:=K.lookup f=some ⟨e,o,.func (W.fnOf x y (Bf s) (Bc s) (Al s) .none v0 v1 v2 g v3 v4),b⟩
def all_mk{l:PySem.W.OpenLaw}{w:World}{K:W.Frag}{h:Heap}{mg:Str->Option Value}{fa:Addr}{Am:Addr}
 {Ax:Addr}
 {A3:Addr}
 {A5:Addr}
 {A0:Addr}
 {Ag:Addr}
 {Av:Addr}
 {A2:Addr}
 {Ba:Addr}
 {A6:Addr}
 {Ay:Addr}
 {Aw:Addr}
 {A4:Addr}
 {A9:Addr}
 {Az:Addr}
 {Ae:Addr}
 {R3:Addr}{EM gC:OAddr}{DT:Bs}{eS FG fR EA V9 fV:Value}
 {Rz:Addr}{EL GB:OAddr}{DS:Bs}{ER fG FQ DZ V8 FU:Value}
 {Pc:Addr}{bH cZ:OAddr}{aP:Bs}{BK BU cH AY Su cM:Value}
 {v4:Addr}{mQ PC:OAddr}{LM:Bs}{mU NK oJ MB CT OP:Value}
 {FN:Addr}{QO rT:OAddr}{pW:Bs}{qQ qW RK QE HE RN:Value}
 {Cm:Addr}{Rk Sk:OAddr}{Q8:Bs}{Rm Rt Sb Ri Ks Sd:Value}
 {Ry:Addr}{eL gB:OAddr}{dS:Bs}{EO FF fQ dZ V7 fU:Value}
 {Nb:Addr}{f8 aE:OAddr}{Zx:Bs}{i4 l7 x8 Z8 Qj y9:Value}
 {Vq:Addr}{jC kZ:OAddr}{iG:Bs}{JG jR KC iR Y3 kL:Value}
 {Ph:Addr}{BJ dD:OAddr}{aS:Bs}{BN bX CJ bB Sz cP:Value}
 {Vu:Addr}{jE lB:OAddr}{II:Bs}{JI jT KG IT Y7 KN:Value}
 {Vs:Addr}{jD lA:OAddr}{iH:Bs}{JH jS KD IS Y5 kM:Value}
 {v6:Addr}{mR PD:OAddr}{LN:Bs}{mV nN oK MC CU OQ:Value}
 {Nh:Addr}{i2 AG:OAddr}{Z2:Bs}{i9 m5 y7 a8 Qo AA:Value}
 {Pe:Addr}{bI dB:OAddr}{AQ:Bs}{BL BV cI AZ Sw cN:Value}
 {Vt:Addr}{JD LA:OAddr}{iI:Bs}{jI JS kE iT Y6 kN:Value}
 {v7:Addr}{MR pF:OAddr}{lO:Bs}{MV NN OL mD cV oR:Value}
 {Pf:Addr}{BI DB:OAddr}{aR:Bs}{bM bW CI bA Sx cO:Value}
 {R5:Addr}{EN gD:OAddr}{DU:Bs}{eT FH fT EB Wb FW:Value}
 {Hf:Addr}{Rj Sj:OAddr}{Q7:Bs}{Rl Rs Sa Rh Kr Sc:Value}
 {OB:Addr}{UM wC:OAddr}{tY:Bs}{UO uZ VW uE OV VZ:Value}
 {Pb:Addr}{BG CY:OAddr}{AO:Bs}{bK bU cG aY Ss CL:Value}
 {Pd:Addr}{BH CZ:OAddr}{aQ:Bs}{bL bV CH aZ Sv CM:Value}
 {Vp:Addr}{JB KY:OAddr}{IF:Bs}{jG JQ kC IQ Y2 kK:Value}
 {OD:Addr}{UN wD:OAddr}{tZ:Bs}{UP vA VX uF OX WA:Value}
 {w4:Addr}{MS pH:OAddr}{lP:Bs}{MW NO OM mE cW oS:Value}
 {v5:Addr}{MQ pD:OAddr}{lN:Bs}{MU NL OJ mC cU oQ:Value}
 {J3:Addr}{Ur Wk:OAddr}{Ue:Bs}{Us Vc Vx Uk Nn V0:Value}
 {fO:Addr}{qP RT:OAddr}{PX:Bs}{qR QW RL qF HF rO:Value}
 {R6:Addr}{eO GD:OAddr}{DV:Bs}{ET FI FT EC Wc fX:Value}
 {Ng:Addr}{g9 aG:OAddr}{Z1:Bs}{i8 m4 y6 a7 Qn aA:Value}
 {E2:Addr}{Og On:OAddr}{Oe:Bs}{Oh Oi Ol Of Hl Om:Value}
 {Vo:Addr}{jB kY:OAddr}{iF:Bs}{JF jQ kB iQ Y1 KJ:Value}
 {v9:Addr}{mS pG:OAddr}{LO:Bs}{mW nO oM MD CV OR:Value}
 {Nd:Addr}{g7 aF:OAddr}{Zz:Bs}{i6 l9 y3 a5 Ql z8:Value}
 {Ni:Addr}{i3 aH:OAddr}{Z3:Bs}{j2 m6 y8 a9 Qp aB:Value}
 {Vr:Addr}{JC KZ:OAddr}{IG:Bs}{jH JR kD iS Y4 KL:Value}
 {Pg:Addr}{bJ DC:OAddr}{AR:Bs}{bN BW cJ BA Sy CO:Value}
 {Vn:Addr}{JA kX:OAddr}{IE:Bs}{jF JP KA IP Y0 kJ:Value}
 {oE:Addr}{uO WD:OAddr}{TZ:Bs}{uQ VA vY uG oY wB:Value}
 {Vv:Addr}{JE LB:OAddr}{iJ:Bs}{jJ JT kH iU Y8 kO:Value}
 {Nf:Addr}{g8 AF:OAddr}{Z0:Bs}{i7 m3 y4 a6 Qm z9:Value}
 {R4:Addr}{eN GC:OAddr}{dU:Bs}{ES fH fS eB Wa fW:Value}
 {OC:Addr}{uN WC:OAddr}{TY:Bs}{uP UZ vX UE OW wA:Value}
 {Nc:Addr}{f9 AE:OAddr}{Zy:Bs}{i5 l8 x9 Z9 Qk z7:Value}
 {De:Addr}{Jx J6:OAddr}{Jv:Bs}{Jy J0 J4 Jw Eu J5:Value}
 {v0:Addr}{MP pC:OAddr}{lM:Bs}{MT nK OI MA cT OO:Value}
 {Lw:Addr}{Xf Xs:OAddr}{W4:Bs}{Xg Xj Xn W7 Ow Xo:Value}
 {u9:Addr}{mP PB:OAddr}{LL:Bs}{mT NJ OH LZ cS oO:Value}
 {VS:Addr}{XN SX:OAddr}{xE:Bs}{xO sM sW sD oW SW:Value}
 {Il:Addr}{Lh N1:Str}{Lz:List Value}{K7:List Str}{Jg:List Value}{L3:Bool}{Js:Option Bool}{Lx:OAddr}{Lq Lp Lo Ln Lm:Option Value}
 {AM:Tok}
 (X:K.In h) (G:h.Ns mainGlobals mg) (hfa:mg "law"=some (.ref fa))
 (qt7:zqS K "HoleError" Am)
 (qt8:zqS K "NoShape" Ax)
 (qt9:zqS K "NoText" A3)
 (qu0:zqS K "NoName" A5)
 (qu2:zqS K "NoLevel" A0)
 (qu3:zqS K "NoChain" Ag)
 (qu4:zqS K "NoTable" Av)
 (qu5:zqS K "NoTurn" A2)
 (qu6:zqS K "NoMap" Ba)
 (qu7:zqS K "NoGlue" A6)
 (qu8:zqS K "NoPrime" Ay)
 (qu9:zqS K "NoStage" Aw)
 (qv0:zqS K "NoPair" A4)
 (qv1:zqS K "NoRow" A9)
 (qv2:zqS K "NoPiece" Az)
 (qv3:zqS K "NoRound" Ae)
 (qv4:zqS K "is_whole" R3)
 (qv5:zqL K R3 eS EM "is_whole" "is_whole" F8 FG fR EA gC V9 fV DT)
 (qv6:W.codeIn K V9 "is_whole"=true)
 (qv7:W.keepIn K (.ref R3)=true)
 (qv8:zqS K "level_of" Rz)
 (qv9:zqL K Rz ER EL "level_of" "level_of" F7 fG FQ DZ GB V8 FU DS)
 (qw0:W.codeIn K V8 "level_of"=true)
 (qw1:W.keepIn K (.ref Rz)=true)
 (qw2:zqS K "called_by" Pc)
 (qw3:zqL K Pc BK bH "called_by" "called_by" E8 BU cH AY cZ Su cM aP)
 (qw4:W.codeIn K Su "called_by"=true)
 (qw5:W.keepIn K (.ref Pc)=true)
 (qw6:zqS K "add_at" v4)
 (qw7:zqL K v4 mU mQ "add_at" "add_at" Ke NK oJ MB PC CT OP LM)
 (qw8:W.codeIn K CT "add_at"=true)
 (qw9:W.keepIn K (.ref v4)=true)
 (qx0:zqS K "times" FN)
 (qx1:zqL K FN qQ QO "times" "times" Ny qW RK QE rT HE RN pW)
 (qx2:W.codeIn K HE "times"=true)
 (qx3:W.keepIn K (.ref FN)=true)
 (qx4:W.findIn K (.ref Ae) "__init__"=some (some (.ref Cm)))
 (qx5:W.isFn K (.ref Cm)=true)
 (qx6:zqL K Cm Rm Rk "__init__" "NoRound.__init__" Ct Rt Sb Ri Sk Ks Sd Q8)
 (qx7:W.codeIn K Ks "NoRound.__init__"=true)
 (qx8:W.keepIn K (.ref Cm)=true)
 (qx9:zqS K "spots_of" Ry)
 (qy0:zqL K Ry EO eL "spots_of" "spots_of" F5 FF fQ dZ gB V7 fU dS)
 (qy1:W.codeIn K V7 "spots_of"=true)
 (qy2:W.keepIn K (.ref Ry)=true)
 (qy3:zqS K "holders_of" Nb)
 (qy4:zqL K Nb i4 f8 "holders_of" "holders_of" D9 l7 x8 Z8 aE Qj y9 Zx)
 (qy5:W.codeIn K Qj "holders_of"=true)
 (qy6:W.keepIn K (.ref Nb)=true)
 (qy7:zqS K "_law_whole" Vq)
 (qy8:zqL K Vq JG jC "_law_whole" "_law_whole" Hy jR KC iR kZ Y3 kL iG)
 (qy9:W.codeIn K Y3 "_law_whole"=true)
 (qz0:W.keepIn K (.ref Vq)=true)
 (qz1:zqS K "_law_cell_at" Ph)
 (qz2:zqL K Ph BN BJ "_law_cell_at" "_law_cell_at" Fd bX CJ bB dD Sz cP aS)
 (qz3:W.codeIn K Sz "_law_cell_at"=true)
 (qz4:W.keepIn K (.ref Ph)=true)
 (qz5:zqS K "_law_level" Vu)
 (qz6:zqL K Vu JI jE "_law_level" "_law_level" Ic jT KG IT lB Y7 KN II)
 (qz7:W.codeIn K Y7 "_law_level"=true)
 (qz8:W.keepIn K (.ref Vu)=true)
 (qz9:zqS K "_law_meets" Vs)
 (za0:zqL K Vs JH jD "_law_meets" "_law_meets" Ia jS KD IS lA Y5 kM iH)
 (za1:W.codeIn K Y5 "_law_meets"=true)
 (za2:W.keepIn K (.ref Vs)=true)
 (za3:zqS K "_law_pick" v6)
 (za4:zqL K v6 mV mR "_law_pick" "_law_pick" Kg nN oK MC PD CU OQ LN)
 (za5:W.codeIn K CU "_law_pick"=true)
 (za6:W.keepIn K (.ref v6)=true)
 (za7:zqS K "_law_faces_by" Nh)
 (za8:zqL K Nh i9 i2 "_law_faces_by" "_law_faces_by" Ee m5 y7 a8 AG Qo AA Z2)
 (za9:W.codeIn K Qo "_law_faces_by"=true)
 (zb0:W.keepIn K (.ref Nh)=true)
 (zb1:zqS K "_law_word_by" Pe)
 (zb2:zqL K Pe BL bI "_law_word_by" "_law_word_by" Fa BV cI AZ dB Sw cN AQ)
 (zb3:W.codeIn K Sw "_law_word_by"=true)
 (zb4:W.keepIn K (.ref Pe)=true)
 (zb5:zqS K "_law_marks" Vt)
 (zb6:zqL K Vt jI JD "_law_marks" "_law_marks" Ib JS kE iT LA Y6 kN iI)
 (zb7:W.codeIn K Y6 "_law_marks"=true)
 (zb8:W.keepIn K (.ref Vt)=true)
 (zb9:zqS K "_law_only" v7)
 (zc0:zqL K v7 MV MR "_law_only" "_law_only" Kh NN OL mD pF cV oR lO)
 (zc1:W.codeIn K cV "_law_only"=true)
 (zc2:W.keepIn K (.ref v7)=true)
 (zc3:zqS K "_law_trimmed" Pf)
 (zc4:zqL K Pf bM BI "_law_trimmed" "_law_trimmed" Fb bW CI bA DB Sx cO aR)
 (zc5:W.codeIn K Sx "_law_trimmed"=true)
 (zc6:W.keepIn K (.ref Pf)=true)
 (zc7:zqS K "_law_number" R5)
 (zc8:zqL K R5 eT EN "_law_number" "_law_number" Ga FH fT EB gD Wb FW DU)
 (zc9:W.codeIn K Wb "_law_number"=true)
 (zd0:W.keepIn K (.ref R5)=true)
 (zd1:zqS K "is_whole_below" Hf)
 (zd2:zqL K Hf Rl Rj "is_whole_below" "is_whole_below" Cs Rs Sa Rh Sj Kr Sc Q7)
 (zd3:W.codeIn K Kr "is_whole_below"=true)
 (zd4:W.keepIn K (.ref Hf)=true)
 (zd5:zqS K "plus" OB)
 (zd6:zqL K OB UO UM "plus" "plus" Ra uZ VW uE wC OV VZ tY)
 (zd7:W.codeIn K OV "plus"=true)
 (zd8:W.keepIn K (.ref OB)=true)
 (zd9:zqS K "left_with" Pb)
 (ze0:zqL K Pb bK BG "left_with" "left_with" E7 bU cG aY CY Ss CL AO)
 (ze1:W.codeIn K Ss "left_with"=true)
 (ze2:W.keepIn K (.ref Pb)=true)
 (ze3:zqS K "add_faces" Pd)
 (ze4:zqL K Pd bL BH "add_faces" "add_faces" E9 bV CH aZ CZ Sv CM aQ)
 (ze5:W.codeIn K Sv "add_faces"=true)
 (ze6:W.keepIn K (.ref Pd)=true)
 (ze7:zqS K "carried" Vp)
 (ze8:zqL K Vp jG JB "carried" "carried" Hx JQ kC IQ KY Y2 kK IF)
 (ze9:W.codeIn K Y2 "carried"=true)
 (zf0:W.keepIn K (.ref Vp)=true)
 (zf1:zqS K "bent" OD)
 (zf2:zqL K OD UP UN "bent" "bent" Rc vA VX uF wD OX WA tZ)
 (zf3:W.codeIn K OX "bent"=true)
 (zf4:W.keepIn K (.ref OD)=true)
 (zf5:zqS K "_law_fits" w4)
 (zf6:zqL K w4 MW MS "_law_fits" "_law_fits" Kj NO OM mE pH cW oS lP)
 (zf7:W.codeIn K cW "_law_fits"=true)
 (zf8:W.keepIn K (.ref w4)=true)
 (zf9:zqS K "_law_side" v5)
 (zg0:zqL K v5 MU MQ "_law_side" "_law_side" Kf NL OJ mC pD cU oQ lN)
 (zg1:W.codeIn K cU "_law_side"=true)
 (zg2:W.keepIn K (.ref v5)=true)
 (zg3:zqS K "_law_words_with" J3)
 (zg4:zqL K J3 Us Ur "_law_words_with" "_law_words_with" Da Vc Vx Uk Wk Nn V0 Ue)
 (zg5:W.codeIn K Nn "_law_words_with"=true)
 (zg6:W.keepIn K (.ref J3)=true)
 (zg7:zqS K "_law_sum" fO)
 (zg8:zqL K fO qR qP "_law_sum" "_law_sum" Nz QW RL qF RT HF rO PX)
 (zg9:W.codeIn K HF "_law_sum"=true)
 (zh0:W.keepIn K (.ref fO)=true)
 (zh1:zqS K "_law_border" R6)
 (zh2:zqL K R6 ET eO "_law_border" "_law_border" Gb FI FT EC GD Wc fX DV)
 (zh3:W.codeIn K Wc "_law_border"=true)
 (zh4:W.keepIn K (.ref R6)=true)
 (zh5:zqS K "_law_is_chain" Ng)
 (zh6:zqL K Ng i8 g9 "_law_is_chain" "_law_is_chain" Ed m4 y6 a7 aG Qn aA Z1)
 (zh7:W.codeIn K Qn "_law_is_chain"=true)
 (zh8:W.keepIn K (.ref Ng)=true)
 (zh9:zqS K "is_place_of_level" E2)
 (zi0:zqL K E2 Oh Og "is_place_of_level" "is_place_of_level" B9 Oi Ol Of On Hl Om Oe)
 (zi1:W.codeIn K Hl "is_place_of_level"=true)
 (zi2:W.keepIn K (.ref E2)=true)
 (zi3:zqS K "is_bent" Vo)
 (zi4:zqL K Vo JF jB "is_bent" "is_bent" Hw jQ kB iQ kY Y1 KJ iF)
 (zi5:W.codeIn K Y1 "is_bent"=true)
 (zi6:W.keepIn K (.ref Vo)=true)
 (zi7:zqS K "_law_next" v9)
 (zi8:zqL K v9 mW mS "_law_next" "_law_next" Ki nO oM MD pG CV OR LO)
 (zi9:W.codeIn K CV "_law_next"=true)
 (zj0:W.keepIn K (.ref v9)=true)
 (zj1:zqS K "_law_shape_by" Nd)
 (zj2:zqL K Nd i6 g7 "_law_shape_by" "_law_shape_by" Eb l9 y3 a5 aF Ql z8 Zz)
 (zj3:W.codeIn K Ql "_law_shape_by"=true)
 (zj4:W.keepIn K (.ref Nd)=true)
 (zj5:zqS K "_law_chain_by" Ni)
 (zj6:zqL K Ni j2 i3 "_law_chain_by" "_law_chain_by" Ef m6 y8 a9 aH Qp aB Z3)
 (zj7:W.codeIn K Qp "_law_chain_by"=true)
 (zj8:W.keepIn K (.ref Ni)=true)
 (zj9:zqS K "_law_twins" Vr)
 (zk0:zqL K Vr jH JC "_law_twins" "_law_twins" Hz JR kD iS KZ Y4 KL IG)
 (zk1:W.codeIn K Y4 "_law_twins"=true)
 (zk2:W.keepIn K (.ref Vr)=true)
 (zk3:zqS K "_law_is_push" Pg)
 (zk4:zqL K Pg bN bJ "_law_is_push" "_law_is_push" Fc BW cJ BA DC Sy CO AR)
 (zk5:W.codeIn K Sy "_law_is_push"=true)
 (zk6:W.keepIn K (.ref Pg)=true)
 (zk7:zqS K "is_part" Vn)
 (zk8:zqL K Vn jF JA "is_part" "is_part" Hv JP KA IP kX Y0 kJ IE)
 (zk9:W.codeIn K Y0 "is_part"=true)
 (zl0:W.keepIn K (.ref Vn)=true)
 (zl1:zqS K "away" oE)
 (zl2:zqL K oE uQ uO "away" "away" Re VA vY uG WD oY wB TZ)
 (zl3:W.codeIn K oY "away"=true)
 (zl4:W.keepIn K (.ref oE)=true)
 (zl5:zqS K "_law_built" Vv)
 (zl6:zqL K Vv jJ JE "_law_built" "_law_built" Id JT kH iU LB Y8 kO iJ)
 (zl7:W.codeIn K Y8 "_law_built"=true)
 (zl8:W.keepIn K (.ref Vv)=true)
 (zl9:zqS K "_law_round_by" Nf)
 (zm0:zqL K Nf i7 g8 "_law_round_by" "_law_round_by" Ec m3 y4 a6 AF Qm z9 Z0)
 (zm1:W.codeIn K Qm "_law_round_by"=true)
 (zm2:W.keepIn K (.ref Nf)=true)
 (zm3:zqS K "is_chain" R4)
 (zm4:zqL K R4 ES eN "is_chain" "is_chain" F9 fH fS eB GC Wa fW dU)
 (zm5:W.codeIn K Wa "is_chain"=true)
 (zm6:W.keepIn K (.ref R4)=true)
 (zm7:zqS K "core" OC)
 (zm8:zqL K OC uP uN "core" "core" Rb UZ vX UE WC OW wA TY)
 (zm9:W.codeIn K OW "core"=true)
 (zn0:W.keepIn K (.ref OC)=true)
 (zn1:zqS K "_law_thing_by" Nc)
 (zn2:zqL K Nc i5 f9 "_law_thing_by" "_law_thing_by" Ea l8 x9 Z9 AE Qk z7 Zy)
 (zn3:W.codeIn K Qk "_law_thing_by"=true)
 (zn4:W.keepIn K (.ref Nc)=true)
 (zn5:zqS K "is_chain_of_some_level" De)
 (zn6:zqL K De Jy Jx "is_chain_of_some_level" "is_chain_of_some_level" Bv J0 J4 Jw J6 Eu J5 Jv)
 (zn7:W.codeIn K Eu "is_chain_of_some_level"=true)
 (zn8:W.keepIn K (.ref De)=true)
 (zn9:zqS K "border" v0)
 (zo0:zqL K v0 MT MP "border" "border" Kd nK OI MA pC cT OO lM)
 (zo1:W.codeIn K cT "border"=true)
 (zo2:W.keepIn K (.ref v0)=true)
 (zo3:zqS K "check_round" Lw)
 (zo4:zqL K Lw Xg Xf "check_round" "check_round" Dp Xj Xn W7 Xs Ow Xo W4)
 (zo5:W.codeIn K Ow "check_round"=true)
 (zo6:W.keepIn K (.ref Lw)=true)
 (zo7:zqS K "pushed" u9)
 (zo8:zqL K u9 mT mP "pushed" "pushed" Kc NJ OH LZ PB cS oO LL)
 (zo9:W.codeIn K cS "pushed"=true)
 (zp0:W.keepIn K (.ref u9)=true)
 (zp1:zqS K "law" VS)
 (zp2:zqL K VS xO XN "law" "law" P0 sM sW sD SX oW SW xE)
 (zp3:W.codeIn K oW "law"=true)
 (zp4:W.keepIn K (.ref VS)=true)
 (zp5:W.keepIn K (.ref Ae)=true)
 (zp6:K.lookup Ae=some (excClassObj Lh N1 Ae Il Lz (.ref Am::bmV) true K7 Jg L3 Js Lx Lq Lp Lo Ln Lm "ValueError.__new__"))
 (zp7:PySem.W.nsOkIn K Il=true)
 (zp8:W.nsIn K Il "__init__"=some (some (.ref Cm)))
 (zp9:PySem.W.tailIn K bmV (.ref Am::bmV)=true)
 (zq0:W.findIn K (.ref Ae) "__setattr__"=some (some (.builtin "object.__setattr__")))
 (zq1:PySem.W.ktsIn K Am "BaseException"=true)
 (zq2:PySem.W.excIn K Ag bmV "ValueError.__new__"=true)
 (zq3:PySem.W.ktsIn K Ag "BaseException"=true)
 (zq4:W.findIn K (.ref Ag) "__getattribute__"=some (some (.builtin "BaseException.__getattribute__")))
 (zq5:W.findIn K (.ref Ag) "__getattr__"=some none)
 (zq6:W.findIn K (.ref Ag) "__class__"=some (some (.builtin "object.__class__")))
 (zq7:PySem.W.subIn K (.ref Ag) (.type "object")=some true)
 (zq8:PySem.W.subIn K (.ref Ag) (.type "BaseException")=some true)
 (zq9:PySem.W.kitOne K (.ref Ag) (.type "ValueError")=some true)
 (zr0:PySem.W.ktsIn K Ae "BaseException"=true)
 (zr1:W.findIn K (.ref Ae) "__getattribute__"=some (some (.builtin "BaseException.__getattribute__")))
 (zr2:W.findIn K (.ref Ae) "__getattr__"=some none)
 (zr3:W.findIn K (.ref Ae) "__class__"=some (some (.builtin "object.__class__")))
 (zr4:PySem.W.subIn K (.ref Ae) (.type "object")=some true)
 (zr5:PySem.W.subIn K (.ref Ae) (.type "BaseException")=some true)
 (zr6:PySem.W.kitOne K (.ref Ae) (.type "ValueError")=some true)
 (zr7:PySem.W.subIn K (.ref Ag) (.ref Am)=some true)
 (zr8:zqK K Ag Ax false)
 (zr9:zqK K Ag A3 false)
 (zs0:zqK K Ag A5 false)
 (zs1:zqK K Ag A0 false)
 (zs2:zqK K Ag Ag true)
 (zs3:zqK K Ag Av false)
 (zs4:zqK K Ag A2 false)
 (zs5:zqK K Ag Ba false)
 (zs6:zqK K Ag A6 false)
 (zs7:zqK K Ag Ay false)
 (zs8:zqK K Ag Aw false)
 (zs9:zqK K Ag A4 false)
 (zt0:zqK K Ag A9 false)
 (zt2:zqK K Ag Az false)
 (zt3:zqK K Ag Ae false)
 (zt4:PySem.W.subIn K (.ref Ag) (.ref Ae)=some false)
 (zt5:zqK K Ae Ax false)
 (zt6:zqK K Ae A3 false)
 (zt7:zqK K Ae A5 false)
 (zt8:zqK K Ae A0 false)
 (zt9:zqK K Ae Ag false)
 (zu0:zqK K Ae Av false)
 (zu1:zqK K Ae A2 false)
 (zu2:zqK K Ae Ba false)
 (zu3:zqK K Ae A6 false)
 (zu4:zqK K Ae Ay false)
 (zu5:zqK K Ae Aw false)
 (zu6:zqK K Ae A4 false)
 (zu7:zqK K Ae A9 false)
 (zu8:zqK K Ae Az false)
 (zu9:zqK K Ae Ae true)
 (zv0:PySem.W.subIn K (.ref Ae) (.ref Ae)=some true)
 (zv1:PySem.W.readsIn K Am (.type "type")=true)
 (zv2:PySem.W.findCls K (.ref Am) (.type "type") "__init__"=some (.val (.builtin "ValueError.__init__")))
 (zv3:PySem.W.specialIn K (.ref Am) "__getattribute__"=some (some (.builtin "type.__getattribute__")))
 (zv4:W.findIn K (.ref Ae) "edge"=some none)
 (zv5:W.nsIn K mainGlobals "LEVELS"=some (some (.int 4 AM)))
 (zv6:zqN K "isinstance")
 (zv7:zqN K "int")
 (zv8:zqN K "bool")
 (zv9:zqN K "max")
 (zw0:zqN K "len")
 (zw1:zqN K "tuple")
 (zw2:zqN K "all")
 (zw3:zqN K "dict")
 (zw4:zqN K "any")
 (zw5:zqN K "range")
 (zw6:zqN K "enumerate")
 (zw7:zqN K "list")
 (zw8:zqN K "ValueError")
 (zw9:zqN K "min") :
 ∃fd:FuncData,(∀(s:Shared) (v:Value),BindsTo s fd ⟨[v],[]⟩ [("_law_script",v)])/\∀base:Heap,K.In base->base.Ns mainGlobals mg->B4 l.prog w K mg base Fv 10 fa fd ["_law_script"] (Zt K):=by
 have e:=hfa.symm.trans (qd2 X G zp1);cases e;have T:Hi K mg Am Ax A3 A5 A0 Ag Av A2 Ba A6 Ay Aw A4 A9 Az Ae:=⟨qd2 X G qt7,zq1,qd2 X G qt8,qd2 X G qt9,qd2 X G qu0,qd2 X G qu2,qd2 X G qu3,zq2,⟨zq3,zq4,zq5,zq6,zq7,zq8⟩,zq9,qd2 X G qu4,qd2 X G qu5,qd2 X G qu6,qd2 X G qu7,qd2 X G qu8,qd2 X G qu9,qd2 X G qv0,qd2 X G qv1,qd2 X G qv2,qd2 X G qv3,⟨zr0,zr1,zr2,zr3,zr4,zr5⟩,zr0,zr6,zr7,zr8,zr9,zs0,zs1,zs2,zs3,zs4,zs5,zs6,zs7,zs8,zs9,zt0,zt2,zt3,zt4,zt5,zt6,zt7,zt8,zt9,zu0,zu1,zu2,zu3,zu4,zu5,zu6,zu7,zu8,zu9,zv0,⟨zv1,zv2,zv3⟩,⟨Cm,⟨⟨Il,Lh,N1,Lz,K7,Jg,L3,Js,Lx,Lq,Lp,Lo,Ln,Lm,zp6,zp7,zp8⟩,zp9,qx5,zq0⟩⟩,Pn.attr (D:=Am) (f:=Cm) ⟨⟨Il,Lh,N1,Lz,K7,Jg,L3,Js,Lx,Lq,Lp,Lo,Ln,Lm,zp6,zp7,zp8⟩,zp9,qx5,zq0⟩ zv4,⟨_,qd2 X G zv5⟩,qh2 X G zv6,qh2 X G zv7,qh2 X G zv8,qh2 X G zv9,qh2 X G zw0,qh2 X G zw1,qh2 X G zw2,qh2 X G zw3,qh2 X G zw4,qh2 X G zw5,qh2 X G zw6,qh2 X G zw7,qh2 X G zw8,qh2 X G zw9⟩
 have Zl:=Bm (st:=F8) qv5 qv6 qv7;have Zk:=Bm (st:=F7) qv9 qw0 qw1;have Wq:=Bm (st:=E8) qw3 qw4 qw5;have HS:=Bm (st:=Ke) qw7 qw8 qw9;have pK:=Bm (st:=Ny) qx1 qx2 qx3;have Mb:=Bm (st:=Ct) qx6 qx7 qx8;have Zj:=Bm (st:=F5) qy0 qy1 qy2;have S2:=Bm (st:=D9) qy4 qy5 qy6;have dJ:=Bm (st:=Hy) qy8 qy9 qz0;have Wv:=Bm (st:=Fd) qz2 qz3 qz4;have dM:=Bm (st:=Ic) qz6 qz7 qz8;have DK:=Bm (st:=Ia) za0 za1 za2;have HV:=Bm (st:=Kg) za4 za5 za6;have S7:=Bm (st:=Ee) za8 za9 zb0;have Ws:=Bm (st:=Fa) zb2 zb3 zb4;have DL:=Bm (st:=Ib) zb6 zb7 zb8;have HW:=Bm (st:=Kh) zc0 zc1 zc2;have Wt:=Bm (st:=Fb) zc4 zc5 zc6;have Zn:=Bm (st:=Ga) zc8 zc9 zd0;have Ma:=Bm (st:=Cs) zd2 zd3 zd4;have tF:=Bm (st:=Ra) zd6 zd7 zd8;have Wp:=Bm (st:=E7) ze0 ze1 ze2;have Wr:=Bm (st:=E9) ze4 ze5 ze6;have DI:=Bm (st:=Hx) ze8 ze9 zf0;have tG:=Bm (st:=Rc) zf2 zf3 zf4;have HY:=Bm (st:=Kj) zf6 zf7 zf8;have HU:=Bm (st:=Kf) zg0 zg1 zg2;have Ox:=Bm (st:=Da) zg4 zg5 zg6;have PK:=Bm (st:=Nz) zg8 zg9 zh0;have Zo:=Bm (st:=Gb) zh2 zh3 zh4;have S6:=Bm (st:=Ed) zh6 zh7 zh8;have Jd:=Bm (st:=B9) zi0 zi1 zi2;have dI:=Bm (st:=Hw) zi4 zi5 zi6;have HX:=Bm (st:=Ki) zi8 zi9 zj0;have S4:=Bm (st:=Eb) zj2 zj3 zj4;have S8:=Bm (st:=Ef) zj6 zj7 zj8;have DJ:=Bm (st:=Hz) zk0 zk1 zk2;have Wu:=Bm (st:=Fc) zk4 zk5 zk6;have DH:=Bm (st:=Hv) zk8 zk9 zl0;have tH:=Bm (st:=Re) zl2 zl3 zl4;have DM:=Bm (st:=Id) zl6 zl7 zl8;have S5:=Bm (st:=Ec) zm0 zm1 zm2;have Zm:=Bm (st:=F9) zm4 zm5 zm6;have TF:=Bm (st:=Rb) zm8 zm9 zn0;have S3:=Bm (st:=Ea) zn2 zn3 zn4;have Fj:=Bm (st:=Bv) zn6 zn7 zn8;have HR:=Bm (st:=Kd) zo0 zo1 zo2;have Qs:=Bm (st:=Dp) zo4 zo5 zo6;have HQ:=Bm (st:=Kc) zo8 zo9 zp0;have Al8:=Bm (st:=P0) zp2 zp3 zp4;refine⟨W.fnOf "law" "law" (Bf P0) (Bc P0) (Al P0) .none sM sW sD SX oW SW,fun s v=>.of_eq rfl,fun base _ _=>?_⟩;have Eh:Has l.prog w K mg base "is_whole" ["thing"] 1 (E6 K):=⟨_,_,qd2 X G qv4,qv7,Zl.binds (ps:=["thing"]) (fun _ _ _ _ _ _=>Nk (fun _=>rfl)),bE Zl T⟩
 have Rv:Has l.prog w K mg base "level_of" ["piece"] 1 (Cq K):=⟨_,_,qd2 X G qv8,qw1,Zk.binds (ps:=["piece"]) (fun _ _ _ _ _ _=>Nk (fun _=>rfl)),BD Zk T⟩
 have O7:Has l.prog w K mg base "called_by" ["spots","piece"] 1 (O2 K):=⟨_,_,qd2 X G qw2,qw5,Wq.binds (ps:=["spots","piece"]) (fun _ _ _ _ _ _=>Ek (fun _ _=>rfl)),d4 Wq T⟩
 have Ht:Has l.prog w K mg base "add_at" ["chain","place","number"] 1 (Hu K):=⟨_,_,qd2 X G qw6,qw9,HS.binds (ps:=["chain","place","number"]) (fun _ _ _ _ _ _=>Jq (fun _ _ _=>rfl)),iX HS T⟩
 have n5:Has l.prog w K mg base "times" ["number","chain"] 1 (Uc K):=⟨_,_,qd2 X G qx0,qx3,pK.binds (ps:=["number","chain"]) (fun _ _ _ _ _ _=>Ek (fun _ _=>rfl)),ML pK T⟩
 have Gf:pJ l.prog w K mg base Ae Am ["self","edge"] 1 (Ev K Ae):=⟨_,_,⟨⟨Il,Lh,N1,Lz,K7,Jg,L3,Js,Lx,Lq,Lp,Lo,Ln,Lm,zp6,zp7,zp8⟩,zp9,qx5,zq0⟩,zp5,Mb.binds (ps:=["self","edge"]) (fun _ _ _ _ _ _=>Ek (fun _ _=>rfl)),P8 Mb T⟩
 have Ig:Has l.prog w K mg base "spots_of" ["things"] 1 (Jj K):=⟨_,_,qd2 X G qx9,qy2,Zj.binds (ps:=["things"]) (fun _ _ _ _ _ _=>Nk (fun _=>rfl)),bD Zj T⟩
 have Jn:Has l.prog w K mg base "holders_of" ["shape","face"] 1 (Ju K):=⟨_,_,qd2 X G qy3,qy6,S2.binds (ps:=["shape","face"]) (fun _ _ _ _ _ _=>Ek (fun _ _=>rfl)),W8 S2 T⟩
 have Ix:Has l.prog w K mg base "_law_whole" ["_law_found"] 1 (K6 K):=⟨_,_,qd2 X G qy7,qz0,dJ.binds (ps:=["_law_found"]) (fun _ _ _ _ _ _=>Nk (fun _=>rfl)),EG dJ T⟩
 have E1:Has l.prog w K mg base "_law_cell_at" ["_law_script","_law_k"] 1 (Hm K):=⟨_,_,qd2 X G qz1,qz4,Wv.binds (ps:=["_law_script","_law_k"]) (fun _ _ _ _ _ _=>Ek (fun _ _=>rfl)),d9 Wv T⟩
 have Cp:Has l.prog w K mg base "_law_level" ["_law_piece"] 1 (Cq K):=⟨_,_,qd2 X G qz5,qz8,dM.binds (ps:=["_law_piece"]) (fun _ _ _ _ _ _=>Nk (fun _=>rfl)),eK dM T⟩
 have Km:Has l.prog w K mg base "_law_meets" ["_law_pieces","_law_faces","_law_face"] 1 (Nw K):=⟨_,_,qd2 X G qz9,za2,DK.binds (ps:=["_law_pieces","_law_faces","_law_face"]) (fun _ _ _ _ _ _=>Jq (fun _ _ _=>rfl)),EI DK T⟩
 have C9:Has l.prog w K mg base "_law_pick" ["_law_cell","_law_j","_law_many"] 1 (F1 K):=⟨_,_,qd2 X G za3,za6,HV.binds (ps:=["_law_cell","_law_j","_law_many"]) (fun _ _ _ _ _ _=>Jq (fun _ _ _=>rfl)),iY HV T⟩
 have Fg:Has l.prog w K mg base "_law_faces_by" ["_law_word","_law_family"] 1 (Gn K):=⟨_,_,qd2 X G za7,zb0,S7.binds (ps:=["_law_word","_law_family"]) (fun _ _ _ _ _ _=>Ek (fun _ _=>rfl)),Xd S7 T⟩
 have O9:Has l.prog w K mg base "_law_word_by" ["_law_cell","_law_family","_law_letters"] 1 (K5 K):=⟨_,_,qd2 X G zb1,zb4,Ws.binds (ps:=["_law_cell","_law_family","_law_letters"]) (fun _ _ _ _ _ _=>Jq (fun _ _ _=>rfl)),d6 Ws T⟩
 have Lr:HasN l.prog w K mg base "_law_marks" ["_law_e"] 1 (Qz K Ax A3 A5 A0 Ag Av A2 Ba A6 Ay Aw A4 A9 Az Ae):=⟨_,_,qd2 X G zb5,zb8,DL.binds (ps:=["_law_e"]) (fun _ _ _ _ _ _=>Nk (fun _=>rfl)),EJ DL T⟩
 have Tw:Has l.prog w K mg base "_law_only" ["_law_at"] 1 (Q4 K):=⟨_,_,qd2 X G zb9,zc2,HW.binds (ps:=["_law_at"]) (fun _ _ _ _ _ _=>Nk (fun _=>rfl)),IY HW T⟩
 have Dk:Has l.prog w K mg base "_law_trimmed" ["_law_chain"] 1 (Mf K):=⟨_,_,qd2 X G zc3,zc6,Wt.binds (ps:=["_law_chain"]) (fun _ _ _ _ _ _=>Nk (fun _=>rfl)),d7 Wt T⟩
 have Ih:Has l.prog w K mg base "_law_number" ["_law_cell"] 1 (K0 K):=⟨_,_,qd2 X G zc7,zd0,Zn.binds (ps:=["_law_cell"]) (fun _ _ _ _ _ _=>Nk (fun _=>rfl)),bF Zn T⟩
 have Gz:Has l.prog w K mg base "is_whole_below" ["thing","bound"] 2 (Fk K):=⟨_,_,qd2 X G zd1,zd4,Ma.binds (ps:=["thing","bound"]) (fun _ _ _ _ _ _=>Ek (fun _ _=>rfl)),P7 Ma T Eh⟩
 have GV:Has l.prog w K mg base "plus" ["one","other"] 2 (Zs K):=⟨_,_,qd2 X G zd5,zd8,tF.binds (ps:=["one","other"]) (fun _ _ _ _ _ _=>Ek (fun _ _=>rfl)),qL tF T Ht⟩
 have O6:Has l.prog w K mg base "left_with" ["shape","kept"] 2 (K2 K):=⟨_,_,qd2 X G zd9,ze2,Wp.binds (ps:=["shape","kept"]) (fun _ _ _ _ _ _=>Ek (fun _ _=>rfl)),b9 Wp T Ig O7⟩
 have O8:Has l.prog w K mg base "add_faces" ["chain","faces","number"] 2 (K4 K):=⟨_,_,qd2 X G ze3,ze6,Wr.binds (ps:=["chain","faces","number"]) (fun _ _ _ _ _ _=>Jq (fun _ _ _=>rfl)),d5 Wr T Ht⟩
 have Vi:Has l.prog w K mg base "carried" ["spots","chain"] 2 (Mh K):=⟨_,_,qd2 X G ze7,zf0,DI.binds (ps:=["spots","chain"]) (fun _ _ _ _ _ _=>Ek (fun _ _=>rfl)),eG DI T Ht⟩
 have Vj:Has l.prog w K mg base "bent" ["shape"] 2 (Tp K):=⟨_,_,qd2 X G zf1,zf4,tG.binds (ps:=["shape"]) (fun _ _ _ _ _ _=>Nk (fun _=>rfl)),qM tG T Jn⟩
 have Tx:Has l.prog w K mg base "_law_fits" ["_law_pieces","_law_thing"] 2 (Q1 K):=⟨_,_,qd2 X G zf5,zf8,HY.binds (ps:=["_law_pieces","_law_thing"]) (fun _ _ _ _ _ _=>Ek (fun _ _=>rfl)),IZ HY T Cp Km Ix⟩
 have q9:Has l.prog w K mg base "_law_side" ["_law_pieces","_law_cell"] 2 (Q3 K):=⟨_,_,qd2 X G zf9,zg2,HU.binds (ps:=["_law_pieces","_law_cell"]) (fun _ _ _ _ _ _=>Ek (fun _ _=>rfl)),IX HU T C9⟩
 have J2:Has l.prog w K mg base "_law_words_with" ["_law_words","_law_word","_law_family"] 2 (Gy K):=⟨_,_,qd2 X G zg3,zg6,Ox.binds (ps:=["_law_words","_law_word","_law_family"]) (fun _ _ _ _ _ _=>Jq (fun _ _ _=>rfl)),Tb Ox T Fg⟩
 have Ls:Has l.prog w K mg base "_law_sum" ["_law_one","_law_number_here","_law_other"] 2 (Ps K):=⟨_,_,qd2 X G zg7,zh0,PK.binds (ps:=["_law_one","_law_number_here","_law_other"]) (fun _ _ _ _ _ _=>Jq (fun _ _ _=>rfl)),MM PK T Dk⟩
 have C2:Has l.prog w K mg base "_law_border" ["_law_pieces","_law_chain"] 2 (Ka K):=⟨_,_,qd2 X G zh1,zh4,Zo.binds (ps:=["_law_pieces","_law_chain"]) (fun _ _ _ _ _ _=>Ek (fun _ _=>rfl)),BF Zo T Dk⟩
 have Dg:Has l.prog w K mg base "_law_is_chain" ["_law_pieces","_law_thing"] 2 (Jh K):=⟨_,_,qd2 X G zh5,zh8,S6.binds (ps:=["_law_pieces","_law_thing"]) (fun _ _ _ _ _ _=>Ek (fun _ _=>rfl)),Xc S6 T Cp Ix⟩
 have Ez:Has l.prog w K mg base "is_place_of_level" ["shape","thing","level"] 3 (D4 K):=⟨_,_,qd2 X G zh9,zi2,Jd.binds (ps:=["shape","thing","level"]) (fun _ _ _ _ _ _=>Jq (fun _ _ _=>rfl)),Mr Jd T Gz Rv⟩
 have Vg:Has l.prog w K mg base "is_bent" ["shape","thing"] 3 (O1 K):=⟨_,_,qd2 X G zi3,zi6,dI.binds (ps:=["shape","thing"]) (fun _ _ _ _ _ _=>Ek (fun _ _=>rfl)),EF dI T Vj Eh⟩
 have r6:Has l.prog w K mg base "_law_next" ["_law_pieces","_law_cell"] 3 (Q5 K):=⟨_,_,qd2 X G zi7,zj0,HX.binds (ps:=["_law_pieces","_law_cell"]) (fun _ _ _ _ _ _=>Ek (fun _ _=>rfl)),iZ HX T q9 Km C9 Cp⟩
 have M8:Has l.prog w K mg base "_law_shape_by" ["_law_kind","_law_cells","_law_most"] 3 (Mi K):=⟨_,_,qd2 X G zj1,zj4,S4.binds (ps:=["_law_kind","_law_cells","_law_most"]) (fun _ _ _ _ _ _=>Jq (fun _ _ _=>rfl)),Xa S4 T J2 O9 Fg⟩
 have Fh:Has l.prog w K mg base "_law_chain_by" ["_law_pieces","_law_k","_law_cells"] 3 (Ji K):=⟨_,_,qd2 X G zj5,zj8,S8.binds (ps:=["_law_pieces","_law_k","_law_cells"]) (fun _ _ _ _ _ _=>Jq (fun _ _ _=>rfl)),Xe S8 T Ls Cp Ih C9⟩
 have Vk:Has l.prog w K mg base "_law_twins" ["_law_pieces","_law_k"] 3 (Qx K):=⟨_,_,qd2 X G zj9,zk2,DJ.binds (ps:=["_law_pieces","_law_k"]) (fun _ _ _ _ _ _=>Ek (fun _ _=>rfl)),EH DJ T C2 Cp⟩
 have Lu:Has l.prog w K mg base "_law_is_push" ["_law_found","_law_told","_law_pieces","_law_chain"] 3 (O0 K):=⟨_,_,qd2 X G zk3,zk6,Wu.binds (ps:=["_law_found","_law_told","_law_pieces","_law_chain"]) (fun _ _ _ _ _ _=>sU (fun _ _ _ _=>rfl)),d8 Wu T Ls Dg C2⟩
 have Vf:Has l.prog w K mg base "is_part" ["shape","k","place","number"] 4 (Mj K):=⟨_,_,qd2 X G zk7,zl0,DH.binds (ps:=["shape","k","place","number"]) (fun _ _ _ _ _ _=>sU (fun _ _ _ _=>rfl)),eF DH T Ez Eh⟩
 have nW:Has l.prog w K mg base "away" ["shape","thing"] 4 (Zu K):=⟨_,_,qd2 X G zl1,zl4,tH.binds (ps:=["shape","thing"]) (fun _ _ _ _ _ _=>Ek (fun _ _=>rfl)),QM tH T Vg O6⟩
 have Vl:Has l.prog w K mg base "_law_built" ["_law_kind","_law_cells","_law_most"] 4 (Q2 K):=⟨_,_,qd2 X G zl5,zl8,DM.binds (ps:=["_law_kind","_law_cells","_law_most"]) (fun _ _ _ _ _ _=>Jq (fun _ _ _=>rfl)),EK DM T M8 Tx r6⟩
 have M9:Has l.prog w K mg base "_law_round_by" ["_law_pieces","_law_k","_law_cells"] 4 (Mg K):=⟨_,_,qd2 X G zl9,zm2,S5.binds (ps:=["_law_pieces","_law_k","_law_cells"]) (fun _ _ _ _ _ _=>Jq (fun _ _ _=>rfl)),Xb S5 T C2 Vk Fh Ls Ih C9⟩
 have Rw:Has l.prog w K mg base "is_chain" ["shape","k","thing"] 5 (K3 K):=⟨_,_,qd2 X G zm3,zm6,Zm.binds (ps:=["shape","k","thing"]) (fun _ _ _ _ _ _=>Jq (fun _ _ _=>rfl)),BE Zm T Vf⟩
 have Vh:Has l.prog w K mg base "core" ["shape"] 5 (To K):=⟨_,_,qd2 X G zm7,zn0,TF.binds (ps:=["shape"]) (fun _ _ _ _ _ _=>Nk (fun _=>rfl)),QL TF T Vj nW⟩
 have M7:Has l.prog w K mg base "_law_thing_by" ["_law_pieces","_law_script"] 5 (Qy K):=⟨_,_,qd2 X G zn1,zn4,S3.binds (ps:=["_law_pieces","_law_script"]) (fun _ _ _ _ _ _=>Ek (fun _ _=>rfl)),W9 S3 T M9 E1 Fh C9 Dk⟩
 have Dd:Has l.prog w K mg base "is_chain_of_some_level" ["shape","thing","bound"] 6 (Im K):=⟨_,_,qd2 X G zn5,zn8,Fj.binds (ps:=["shape","thing","bound"]) (fun _ _ _ _ _ _=>Jq (fun _ _ _=>rfl)),Jf Fj T Rw⟩
 have Kl:HasX l.prog w K mg base "border" ["shape","chain"] 7 (K1 K Ag):=⟨_,_,qd2 X G zn9,zo2,HR.binds (ps:=["shape","chain"]) (fun _ _ _ _ _ _=>Ek (fun _ _=>rfl)),IW HR T Dd O8⟩
 have J1:HasX l.prog w K mg base "check_round" ["shape","chain"] 8 (Q0 K Ag Ae):=⟨_,_,qd2 X G zo3,zo6,Qs.binds (ps:=["shape","chain"]) (fun _ _ _ _ _ _=>Ek (fun _ _=>rfl)),Uq Qs T Kl Gf⟩
 have Qf:HasX l.prog w K mg base "pushed" ["shape","chain"] 9 (Kz K Ag Ae):=⟨_,_,qd2 X G zo7,zp0,HQ.binds (ps:=["shape","chain"]) (fun _ _ _ _ _ _=>Ek (fun _ _=>rfl)),iW HQ T J1 Vh Kl GV Vi n5 Ig⟩
 have n6:Has l.prog w K mg base "pushed" ["shape","chain"] 9 (Ky K):=Qf.down (fun _ _ _ _ z=>IM z);exact uM Al8 T Vl M7 C2 E1 Qf n6 Dg Lu Gf Lr Tw Vh
def walk{l:PySem.W.OpenLaw}{q:Program}{loose:List Str}{XP:(Str->Option Value)->Heap->Prop}{YP:World->Heap->Prop}{d:DefRec}{K:Params->PySem.W.Frag}(hn:l.most=some 63)(hdf:d.params.defaults=[])
 (hY:∀(w:World) (h:Heap),YP w h->(K w.params).In h)
 (F:∀(w:World) (mg:Str->Option Value) (fa:Addr) (h:Heap),(K w.params).In h->h.Ns mainGlobals mg->mg d.name=some (.ref fa) →
   ∃fd:FuncData,(∀(s:Shared) (u:Value),BindsTo s fd ⟨[u],[]⟩ [("_law_script",u)])/\∀base:Heap,(K w.params).In base->base.Ns mainGlobals mg->B4 l.prog w (K w.params) mg base Fv 10 fa fd ["_law_script"] (Zt (K w.params))) :
 PySem.W.WalkO q loose XP YP l.row.toRowW d [] (fun f vs=>PySem.call f vs) :=
 L2.walk_of (n:=63) (k:=10) (x:="_law_script") (CX:=fun _=>Fv) (sp:=fun w=>Zt (K w.params)) hn (by decide) hdf ⟨rfl,by decide,by decide,rfl⟩ hY F (fun _ _ a ns hl _ hS=>⟨a,ns,rfl,hS,hl,fun _=>rfl⟩) fun _ _ _ _ _ z=>z
end Hb
structure PySem.W.Fast:Prop where(tw11350336869302409537 tw18081094017463488736 tw9215795212534568628 tw14271920049037760580 tw1829684726477416290 tw10911428485771169514 tw6904338496390519280 tw61364243301009558 tw10823080331855548567 tw12142462642631657399 tw13649208792077822852 tw16477546594980329995 tw857232802302918889 tw18185624998390375778 tw18365859873730550102 tw14816801924218049341 tw10690781922150938413 tw1824115786168709834 tw15632123650919054313 tw17230470921663146122 tw10232084759133000838 tw8173205624615330824 tw16427807205788926352 tw5870694083566140546 tw13182544775070444373 tw4091154167414680174 tw527823038538054382 tw13703172702618171803 tw4748556921406716576 tw4406101857230898716 tw16370421245891384456 tw12326041384947169775 tw12387713595582554462 tw13664029071383359733 tw11116606637061779946 tw14260894123719178158 tw8481108014978157554 tw2231274369029626026 tw8777063913734742431 tw8553947745831087155 tw5872544503441843278 tw6731147711174066330 tw18022070666852020509 tw7723426208713113453 tw16833338967956344463 tw17689399611742336555 tw4832096898199964942 tw7743896282233960894 tw10248904735110487586 tw11989930268010496122 tw8393617669198275792 tw10478780217360625027 tw6322332929733286003 tw18136629116875956017 tw14621087186698465209 tw10247395267142019772 tw4970985249585676691 tw4757938784958142477 tw8026520330191540534 tw1518975535675743620 tw15162084090099689494 tw459503285422534628 tw1612335039566889081 tw17680179755682230910 tw9486040282750554902 tw8718352201976478855 tw3270417750179001420 tw2337817658619430839 tw15400219476564603577 tw14835518168511583185 tw18405319613866995142 tw14785243915914897694 tw16261619115821874952 tw16652401015240599818 tw18346568154603773979 tw8884676642116188477 tw11195926464211044870 tw8708604456732058806 tw5169754139093303958 tw14903383459791260543 tw12439527112682027831 tw7310590575813801733 tw10880166032087993533 tw13328927208215342442 tw6279673964164034398 tw5633486415247502775 tw8009320957384433136 tw2626451824149073688 tw13173884932295831393 tw5716818664612529170 tw6411574485072126305 tw1579113049368505785 tw7256979215363512309 tw11212215715643930489 tw10112533605910105386 tw16908249883090833817 tw9749335660260374314 tw15758270244468653683 tw899908806229975792 tw12370962194973476634 tw1501768523339680080 tw173278962127545569 tw6126141286949599283 tw8788329774972584712 tw14747883481997207602 tw14189730529645147218 tw3842883937207782338 tw14948549962991776094 tw460426411668210497 tw4884977949732370421 tw15873633376706345622 tw9123560021774203411 tw17578647777688460598 tw6705960022873954844 tw620859808848438592 tw10993875150985892732 tw2343079932950725194 tw9573022043796787221 tw5651620781121450810 tw5589806547290140047 tw11446847967739034143 tw10871108545439450323 tw5621460014931236420 tw11915718549478151692 tw16580445769905910148 tw13327382022382023927 tw8522470652758817890 tw10878241075906729432 tw18278680897233873226 tw15685143703820167003 tw3666066289213717180 tw7236971062665912809 tw12273468770974351916 tw1658251942890820475 tw5814861088476928807 tw13272365299730506950 tw10395131608050865942 tw1543641800715390971 tw1375890971599272794 tw12477224206426539049 tw8664249481910394637 tw8306516371743989772 tw5417295225188222855 tw7347660898950168853 tw2597164522772277976 tw11516047230572471655 tw11333737042913239693 tw8405895474386965442 tw12198210861718448949 tw18408354423757761324 tw6022115665942167110 tw10993618298176664655 tw3479977902968691966 tw6521326903827105431 tw7969775780496846667 tw13361461520646512382 tw11399121241614504507 tw12386949437062240197 tw13335812818626985149 tw4723394462326463703 tw9350237333604461663 tw10853592035758763390 tw11776690041492434697 tw3662973934925724520 tw3524825935188412055 tw9018263033315662701 tw6433043169860909136 tw9254888983303101795 tw2807033303730413855 tw15832457515554406969 tw5960433734356673235 tw6150866352954637157 tw14208860405965895620 tw10796697456463822240 tw16021220144093395194 tw3815134081327127568 tw13141257179414434871 tw11562607129116209508 tw5598435720391100359 tw13753677730662854605 tw8589227835970960331 tw4837864093571731318 tw11687808179598151306 tw2009024538828456398 tw16103580674837116464 tw16703114841561954194 tw13996539180893858576 tw16232507528898445855 tw13124609788743156535 tw10562614510893364220 tw12756021692058733393 tw10376517516741660684 tw17380920694126697185 tw6313043492626150058 tw17044966472581683611 tw16713884610526298598 tw5629750680501581750 tw12697949892951893268 tw9524463982950218797 tw7865540808322853647 tw9955426969039934350 tw12405831863295696535 tw6326406523381089222 tw6205537374117972981 tw3454848934232087977 tw5251254531162471441 tw14957018766897441823 tw15000401316770792917 tw16637075039438389636 tw2482227625804223295 tw137384977563471151 tw12628221768988880146 tw4206604172852744741 tw1875459045924768191 tw17484422064590505449 tw2721369261133858303 tw15872837576345736632 tw545281985206491410 tw3516019662509833891 tw16150738468166085150 tw1223895514443279469 tw10498740525527747314 tw7508150269817132750 tw16744115845827905991 tw15195626969154938868 tw807455001833807092 tw18285462502761431887 tw10546760442998776780 tw13643921062683260756 tw8325489018160198890 tw12224454791603824697 tw7816349338046583304 tw12318549723143608332 tw2133203611922897954 tw8292732180717151647 tw16725862847287691400 tw10419130299058442656 tw11210361289359979169 tw10516586982781522640 tw12215963102112826478 tw8046579483031190257 tw14010658014968866037 tw2216746461280627698 tw2067051395409971490 tw9198892948397824612 tw4133826733493916380 tw11457332355872883791 tw323991568909660475 tw5412435458903096127 tw8720504660228210921 tw12677813295587211402 tw481065948465717780 tw9826893210421132015 tw2251340464353546228 tw2906626002885276824 tw16490412307274293649 tw10867996100505864282 tw1814851190405710402 tw9740227106574992278 tw2087166091117844071 tw205205402561168102 tw9154301942253571892 tw4578432256491523708 tw14459040651578407060 tw18181060395156640703 tw2454689493428517543 tw1640274141687950564 tw11278468748676209950 tw14855184164494601823 tw10129455633540287310 tw7278854278330083394 tw2207958977628526815 tw5790972448657143246 tw2730922697388737644 tw16562630144305430715 tw7650182411685411526 tw16083081176606787216 tw7108805706846895344 tw179559162631540699 tw4325920021804530074 tw17059113290840291442 tw238669244907218558 tw6476368969103313201 tw3280705236749501374 tw18049944006155637987 tw15148959506945542217 tw11992308304426004636 tw18251364459873855097 tw8403392471994139918 tw8181472774275564115 tw1114009001839475047 tw12307830366219741120 tw17261837639913928243 tw13968680509239471533 tw17696103070873574522 tw17660061115133330469 tw11463945121925872281 tw10535737111773197885 tw10325212867353641238 tw13799064571219721763 tw17936872253706488622 tw14432955823969887336 tw15677959372653177373 tw4539510529591216032 tw17712843909766837215 tw12940435726983070667 tw2195543754889643647 tw16223349737733113508 tw9336615060069991000 tw8095773730168246394 tw13671354934063124917 tw9966572465102326584 tw4208337458656440965 tw3186021757071346601 tw11189607473428804997 tw2023728376234240717 tw3978385130835983000 tw15046843151054932661 tw9435429174544042173 tw5555494128018048713 tw5483874446752320973 tw10019843381226811028 tw7764105040884767225 tw13014555453777980739 tw9240562457504478537 tw10649242059455223876 tw17355225262649646105 tw10874579879649242138 tw775737032431570118 tw16188407812179816555 tw1752869574037748180 tw4131634823566813400 tw1315210803799520924 tw2837456428762826759 tw11587069941956551077 tw873708518860678350 tw4296147732529133753 tw10172061640127195283 tw15174004482225902218 tw15740212295176259208 tw14663923640038534423 tw4439354146506695561 tw18378824777311978187 tw3581951643535014592 tw8851406135613571480 tw10142196605639188827 tw7733514855123186170 tw16542154596092373583 tw8024268759523832422 tw10103772719997773364 tw3310321213605366038 tw11047016494104810533 tw108795928975606754 tw4360504409221944753 tw3782360644146424238 tw3927753369416514759 tw14416722836604491802 tw13761038186706018709 tw13304865244531591615 tw6999439462503642900 tw12102851457281872732 tw4525659054045497040 tw7985754343682472889 tw9682111645925130609 tw9411390867471815559 tw2994215609982487421 tw3179395423677462772 tw16075987522083752116 tw17009238298471208916 tw15148990740508810612 tw11594893170135511597 tw6623277172063499085 tw11372624452456406545 tw17455890194368764970 tw1002676458290590921 tw14369560628996195495 tw1413766545033252376 tw2346145938335737136 tw8327988035213186209 tw18199252789334735526 tw1143742487500500594 tw3083751555261870510 tw5992295644848627284 tw13202414949969928054 tw2941438455907559803 tw7580008063581831448 tw5986003256310244568 tw16514935704295057516 tw16303969126611918073 tw1323717308200530014 tw9776083434267428653 tw1159818359358209043 tw16268258585030681160 tw17585113722500841491 tw10676999794945715210 tw10857159123305508513 tw15220137284843776094 tw17120713982976086319 tw17016911954656200500 tw13972456764931880804 tw12348371694155820686 tw3461456312008628233 tw17100649267868783369 tw8715196226604341855 tw5635899346314909131 tw10390895691087615234 tw2105328333983723536 tw14646517857808848612 tw6782262436205813984 tw13446951517257976357 tw7987056578297167663 tw2133129276488593793 tw2206758231076663649 tw11083624061041281670 tw5641270537350641067 tw16003888562485970341 tw5851385385223930431 tw9416064401708524552 tw15529040506414195044 tw11808366946535694246 tw13817081888340118606 tw11141062804097780114 tw15582519349171441431 tw9516651155851419071 tw4946057752345225345 tw18070198396380929209 tw15227108514272779611 tw112396577580251711 tw14999072681508090344 tw6029097598394214726 tw15744060077195965579 tw15973033855376020858 tw1001550813398926980 tw6480516278833126936 tw14675117594388777125 tw853945884898002526 tw7451075822676804142 tw12130146372911807528 tw3992631722806540807 tw10044142935633583162 tw14244545771714976827 tw5817689798124178024 tw9576550779376649388 tw6094876266571413042 tw16555099858258559934 tw13189366680303475643 tw12164672005675051729 tw3064952946502678002 tw1508165688501880858 tw14399463799291049091 tw796244101390255274 tw12634440357962931699 tw4504447142397969568 tw16097458333644991154 tw5001654186147424502 tw12825143006563301756 tw9386791967990492281 tw2140403838371987057 tw7782074179526802114 tw9072088702512071303 tw6257518189212126511 tw16133589098344805165 tw15437226216878551048 tw3968113443599985631 tw8370612138597830422 tw8190442902714483056 tw12782348526089299263 tw14142875665884859363 tw867196276438967117 tw14055104913042705773 tw14454032245687870603 tw18028728820081227747 tw3241153271061817299 tw9007963166425506999 tw15387951624875531054 tw5280726846440378812 tw17415266836959208986 tw16977393826900197941 tw6739101197568806591 tw8947659773177292993 tw709302476389688193 tw13032332179486663820 tw3969977248375827271 tw4301248085721712824 tw3917831536880494663 tw5142738418566679709 tw12693479249818550376 tw3341962914546081496 tw16521222995580215024 tw15554468758597508656 tw12509929897824070115 tw8747547109984102246 tw11580556987864350762 tw11597827761405219609 tw5925910776832593527 tw15639567250645213209 tw9367895067676803626 tw18157115990264783331 tw17137716694197738785 tw8255813173003235692 tw10841526435990161828 tw12727478784633697940 tw17847484847163587527 tw17395802744542608490 tw4330634676022530190 tw6974858907708441299 tw1147547821115196324 tw8884638831247107471 tw10034356072724243999 tw9243569831033415554 tw9471189067753043302 tw12633041030097072883 tw2476385382754861097 tw12688881718907307757 tw12707396518888998173 tw9229060648629580550 tw1117735176733456241 tw7376105952663593687 tw9412599631908682397 tw13884146232769417727 tw15234062631566879388 tw7645727474039802205 tw10088167127145023307 tw842930407797293120 tw1085148765922216428 tw7009713583679847296 tw9155542170312775482 tw18314390862410308107 tw2684157216676230725 tw2813038117791444466 tw5093694832524373886 tw2369916833383857584 tw2951217773248201418 tw14464159567838959164 tw10487120806457920071 tw3803346263502523053 tw15018498608789679671 tw18189042966062409971 tw15942353859586695161 tw8070977945528853542 tw14070213227919163992 tw13964282383250416920 tw1628090077293503060 tw1244385307979324597 tw17312447015811643933 tw16217010590564295538 tw14822514253556386029 tw7118824463821759823 tw7065256664912508465 tw1336125618986644073 tw4750839298242891362 tw13080682188724001707 tw13477519421769963814 tw6191257408534910545 tw6815218546954620312 tw12161708400325100839 tw1824131128517643174 tw3128029078299994608 tw1612791420894040303 tw2240242852295167551 tw13011613716203972190 tw11965425482378716496 tw11407378322513208264 tw5088599851522460126 tw16184253559394077075 tw7678155464969187839 tw10330277565265352050 tw8305199216645405464 tw3839494609151949023 tw14703299613149515005 tw8179031071228405812 tw12630713052499464787 tw13314373390719914753 tw9258154156935513747 tw12721420951249591521 tw11109682866657082343 tw2249370242446333944 tw16972410005835743033 tw14808576963053388997 tw11378716618896741543 tw6240015391049405046 tw9600791009739746863 tw1094185318441005701 tw499217895454500695 tw10985403382890500894 tw11171640762235568958 tw15303389147224755795 tw5228167406854021495 tw1160764889412707038 tw13893920410971327933 tw7721625371078732364 tw15362847471262587443 tw10130799222517119187 tw15374792039109964649 tw9801920058124183117 tw13458143955885793105 tw6915708222776704778 tw16338289878943306854 tw14934537577029558220 tw10927674844634302839 tw7371392631987283048 tw16167829240172544211 tw14641995788273213817 tw4207179345296329301 tw11504844287491363498 tw6502749835904688876 tw10332320885782273583 tw1704915062427324409 tw13059714623344983986 tw12786782290172856581 tw67754171590260554 tw16965309810276633581 tw9842494598769304480 tw18355534438075807450 tw569963693756029726 tw672385059901340165:True)
open PySem PySem.W PyProof.Rows
set_option maxRecDepth 100000 in
set_option maxHeartbeats 0 in
theorem PySem.Challenge.cw_holebook_k64_a_round_pushed_holds : PySem.Challenge.rw_holebook_k64_a_round_pushed.Holds := by
 w_on;o_law;k_head;(case hw=>w_witness2)
 k_fill
 refine Hb.walk (l:=PySem.Challenge.rw_holebook_k64_a_round_pushed) rfl rfl (fun w h Y=>PySem.W.kIn_of Y) ?F
 case F =>
  intro w mg fa h KX G hmg
  refine' Hb.all_mk KX G hmg ?qt7 ?qt8 ?qt9 ?qu0 ?qu2 ?qu3 ?qu4 ?qu5 ?qu6 ?qu7 ?qu8 ?qu9 ?qv0 ?qv1 ?qv2 ?qv3 ?qv4 ?qv5 ?qv6 ?qv7 ?qv8 ?qv9 ?qw0 ?qw1 ?qw2 ?qw3 ?qw4 ?qw5 ?qw6 ?qw7 ?qw8 ?qw9 ?qx0 ?qx1 ?qx2 ?qx3 ?qx4 ?qx5 ?qx6 ?qx7 ?qx8 ?qx9 ?qy0 ?qy1 ?qy2 ?qy3 ?qy4 ?qy5 ?qy6 ?qy7 ?qy8 ?qy9 ?qz0 ?qz1 ?qz2 ?qz3 ?qz4 ?qz5 ?qz6 ?qz7 ?qz8 ?qz9 ?za0 ?za1 ?za2 ?za3 ?za4 ?za5 ?za6 ?za7 ?za8 ?za9 ?zb0 ?zb1 ?zb2 ?zb3 ?zb4 ?zb5 ?zb6 ?zb7 ?zb8 ?zb9 ?zc0 ?zc1 ?zc2 ?zc3 ?zc4 ?zc5 ?zc6 ?zc7 ?zc8 ?zc9 ?zd0 ?zd1 ?zd2 ?zd3 ?zd4 ?zd5 ?zd6 ?zd7 ?zd8 ?zd9 ?ze0 ?ze1 ?ze2 ?ze3 ?ze4 ?ze5 ?ze6 ?ze7 ?ze8 ?ze9 ?zf0 ?zf1 ?zf2 ?zf3 ?zf4 ?zf5 ?zf6 ?zf7 ?zf8 ?zf9 ?zg0 ?zg1 ?zg2 ?zg3 ?zg4 ?zg5 ?zg6 ?zg7 ?zg8 ?zg9 ?zh0 ?zh1 ?zh2 ?zh3 ?zh4 ?zh5 ?zh6 ?zh7 ?zh8 ?zh9 ?zi0 ?zi1 ?zi2 ?zi3 ?zi4 ?zi5 ?zi6 ?zi7 ?zi8 ?zi9 ?zj0 ?zj1 ?zj2 ?zj3 ?zj4 ?zj5 ?zj6 ?zj7 ?zj8 ?zj9 ?zk0 ?zk1 ?zk2 ?zk3 ?zk4 ?zk5 ?zk6 ?zk7 ?zk8 ?zk9 ?zl0 ?zl1 ?zl2 ?zl3 ?zl4 ?zl5 ?zl6 ?zl7 ?zl8 ?zl9 ?zm0 ?zm1 ?zm2 ?zm3 ?zm4 ?zm5 ?zm6 ?zm7 ?zm8 ?zm9 ?zn0 ?zn1 ?zn2 ?zn3 ?zn4 ?zn5 ?zn6 ?zn7 ?zn8 ?zn9 ?zo0 ?zo1 ?zo2 ?zo3 ?zo4 ?zo5 ?zo6 ?zo7 ?zo8 ?zo9 ?zp0 ?zp1 ?zp2 ?zp3 ?zp4 ?zp5 ?zp6 ?zp7 ?zp8 ?zp9 ?zq0 ?zq1 ?zq2 ?zq3 ?zq4 ?zq5 ?zq6 ?zq7 ?zq8 ?zq9 ?zr0 ?zr1 ?zr2 ?zr3 ?zr4 ?zr5 ?zr6 ?zr7 ?zr8 ?zr9 ?zs0 ?zs1 ?zs2 ?zs3 ?zs4 ?zs5 ?zs6 ?zs7 ?zs8 ?zs9 ?zt0 ?zt2 ?zt3 ?zt4 ?zt5 ?zt6 ?zt7 ?zt8 ?zt9 ?zu0 ?zu1 ?zu2 ?zu3 ?zu4 ?zu5 ?zu6 ?zu7 ?zu8 ?zu9 ?zv0 ?zv1 ?zv2 ?zv3 ?zv4 ?zv5 ?zv6 ?zv7 ?zv8 ?zv9 ?zw0 ?zw1 ?zw2 ?zw3 ?zw4 ?zw5 ?zw6 ?zw7 ?zw8 ?zw9
  all_goals try delta Hb.zqS Hb.zqN Hb.zqK Hb.zqL
  (case qt7=>k_is);(case qt8=>k_is);(case qt9=>k_is);(case qu0=>k_is)
  (case qu2=>k_is);(case qu3=>k_is);(case qu4=>k_is);(case qu5=>k_is)
  (case qu6=>k_is);(case qu7=>k_is);(case qu8=>k_is);(case qu9=>k_is)
  (case qv0=>k_is);(case qv1=>k_is);(case qv2=>k_is);(case qv3=>k_is)
  (case qv4=>k_is);(case qv5=>k_is);(case qv6=>k_is);(case qv7=>k_is)
  (case qv8=>k_is);(case qv9=>k_is);(case qw0=>k_is);(case qw1=>k_is)
  (case qw2=>k_is);(case qw3=>k_is);(case qw4=>k_is);(case qw5=>k_is)
  (case qw6=>k_is);(case qw7=>k_is);(case qw8=>k_is);(case qw9=>k_is)
  (case qx0=>k_is);(case qx1=>k_is);(case qx2=>k_is);(case qx3=>k_is)
  (case qx4=>k_is);(case qx5=>k_is);(case qx6=>k_is);(case qx7=>k_is)
  (case qx8=>k_is);(case qx9=>k_is);(case qy0=>k_is);(case qy1=>k_is)
  (case qy2=>k_is);(case qy3=>k_is);(case qy4=>k_is);(case qy5=>k_is)
  (case qy6=>k_is);(case qy7=>k_is);(case qy8=>k_is);(case qy9=>k_is)
  (case qz0=>k_is);(case qz1=>k_is);(case qz2=>k_is);(case qz3=>k_is)
  (case qz4=>k_is);(case qz5=>k_is);(case qz6=>k_is);(case qz7=>k_is)
  (case qz8=>k_is);(case qz9=>k_is);(case za0=>k_is);(case za1=>k_is)
  (case za2=>k_is);(case za3=>k_is);(case za4=>k_is);(case za5=>k_is)
  (case za6=>k_is);(case za7=>k_is);(case za8=>k_is);(case za9=>k_is)
  (case zb0=>k_is);(case zb1=>k_is);(case zb2=>k_is);(case zb3=>k_is)
  (case zb4=>k_is);(case zb5=>k_is);(case zb6=>k_is);(case zb7=>k_is)
  (case zb8=>k_is);(case zb9=>k_is);(case zc0=>k_is);(case zc1=>k_is)
  (case zc2=>k_is);(case zc3=>k_is);(case zc4=>k_is);(case zc5=>k_is)
  (case zc6=>k_is);(case zc7=>k_is);(case zc8=>k_is);(case zc9=>k_is)
  (case zd0=>k_is);(case zd1=>k_is);(case zd2=>k_is);(case zd3=>k_is)
  (case zd4=>k_is);(case zd5=>k_is);(case zd6=>k_is);(case zd7=>k_is)
  (case zd8=>k_is);(case zd9=>k_is);(case ze0=>k_is);(case ze1=>k_is)
  (case ze2=>k_is);(case ze3=>k_is);(case ze4=>k_is);(case ze5=>k_is)
  (case ze6=>k_is);(case ze7=>k_is);(case ze8=>k_is);(case ze9=>k_is)
  (case zf0=>k_is);(case zf1=>k_is);(case zf2=>k_is);(case zf3=>k_is)
  (case zf4=>k_is);(case zf5=>k_is);(case zf6=>k_is);(case zf7=>k_is)
  (case zf8=>k_is);(case zf9=>k_is);(case zg0=>k_is);(case zg1=>k_is)
  (case zg2=>k_is);(case zg3=>k_is);(case zg4=>k_is);(case zg5=>k_is)
  (case zg6=>k_is);(case zg7=>k_is);(case zg8=>k_is);(case zg9=>k_is)
  (case zh0=>k_is);(case zh1=>k_is);(case zh2=>k_is);(case zh3=>k_is)
  (case zh4=>k_is);(case zh5=>k_is);(case zh6=>k_is);(case zh7=>k_is)
  (case zh8=>k_is);(case zh9=>k_is);(case zi0=>k_is);(case zi1=>k_is)
  (case zi2=>k_is);(case zi3=>k_is);(case zi4=>k_is);(case zi5=>k_is)
  (case zi6=>k_is);(case zi7=>k_is);(case zi8=>k_is);(case zi9=>k_is)
  (case zj0=>k_is);(case zj1=>k_is);(case zj2=>k_is);(case zj3=>k_is)
  (case zj4=>k_is);(case zj5=>k_is);(case zj6=>k_is);(case zj7=>k_is)
  (case zj8=>k_is);(case zj9=>k_is);(case zk0=>k_is);(case zk1=>k_is)
  (case zk2=>k_is);(case zk3=>k_is);(case zk4=>k_is);(case zk5=>k_is)
  (case zk6=>k_is);(case zk7=>k_is);(case zk8=>k_is);(case zk9=>k_is)
  (case zl0=>k_is);(case zl1=>k_is);(case zl2=>k_is);(case zl3=>k_is)
  (case zl4=>k_is);(case zl5=>k_is);(case zl6=>k_is);(case zl7=>k_is)
  (case zl8=>k_is);(case zl9=>k_is);(case zm0=>k_is);(case zm1=>k_is)
  (case zm2=>k_is);(case zm3=>k_is);(case zm4=>k_is);(case zm5=>k_is)
  (case zm6=>k_is);(case zm7=>k_is);(case zm8=>k_is);(case zm9=>k_is)
  (case zn0=>k_is);(case zn1=>k_is);(case zn2=>k_is);(case zn3=>k_is)
  (case zn4=>k_is);(case zn5=>k_is);(case zn6=>k_is);(case zn7=>k_is)
  (case zn8=>k_is);(case zn9=>k_is);(case zo0=>k_is);(case zo1=>k_is)
  (case zo2=>k_is);(case zo3=>k_is);(case zo4=>k_is);(case zo5=>k_is)
  (case zo6=>k_is);(case zo7=>k_is);(case zo8=>k_is);(case zo9=>k_is)
  (case zp0=>k_is);(case zp1=>k_is);(case zp2=>k_is);(case zp3=>k_is)
  (case zp4=>k_is);(case zp5=>k_is);(case zp6=>k_is);(case zp7=>first | k_is | k_qdec | kernel_rfl | decide +kernel)
  (case zp8=>k_is);(case zp9=>first | k_is | k_qdec | kernel_rfl | decide +kernel);(case zq0=>k_is);(case zq1=>kts_isx)
  (case zq2=>k_exc);(case zq3=>kts_isx);(case zq4=>k_is);(case zq5=>k_is)
  (case zq6=>k_is);(case zq7=>k_is);(case zq8=>k_is);(case zq9=>kit_is)
  (case zr0=>kts_isx);(case zr1=>k_is);(case zr2=>k_is);(case zr3=>k_is)
  (case zr4=>k_is);(case zr5=>k_is);(case zr6=>kit_is);(case zr7=>k_is)
  (case zr8=>kit_is);(case zr9=>kit_is);(case zs0=>kit_is);(case zs1=>kit_is)
  (case zs2=>kit_is);(case zs3=>kit_is);(case zs4=>kit_is);(case zs5=>kit_is)
  (case zs6=>kit_is);(case zs7=>kit_is);(case zs8=>kit_is);(case zs9=>kit_is)
  (case zt0=>kit_is);(case zt2=>kit_is);(case zt3=>kit_is);(case zt4=>k_is)
  (case zt5=>kit_is);(case zt6=>kit_is);(case zt7=>kit_is);(case zt8=>kit_is)
  (case zt9=>kit_is);(case zu0=>kit_is);(case zu1=>kit_is);(case zu2=>kit_is)
  (case zu3=>kit_is);(case zu4=>kit_is);(case zu5=>kit_is);(case zu6=>kit_is)
  (case zu7=>kit_is);(case zu8=>kit_is);(case zu9=>kit_is);(case zv0=>k_is)
  (case zv1=>first | k_is | k_qdec | kernel_rfl | decide +kernel);(case zv2=>first | k_is | k_qdec | kernel_rfl | decide +kernel);(case zv3=>first | k_is | k_qdec | kernel_rfl | decide +kernel);(case zv4=>k_is)
  (case zv5=>k_is);(case zv6=>k_is);(case zv7=>k_is);(case zv8=>k_is)
  (case zv9=>k_is);(case zw0=>k_is);(case zw1=>k_is);(case zw2=>k_is)
  (case zw3=>k_is);(case zw4=>k_is);(case zw5=>k_is);(case zw6=>k_is)
  (case zw7=>k_is);(case zw8=>k_is);(case zw9=>k_is)
