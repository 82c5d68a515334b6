"""Every example of sections 4 to 19 of the document, word for word."""
import unittest

SECTIONS = [4, 4, 4, 5, 5, 5, 6, 6, 7, 8, 9, 10, 10, 11, 11, 12, 12, 13, 13, 14, 14, 15, 16, 16,
            17, 17, 18, 18, 18, 19, 19]

EXAMPLES = r"""
## 4
>>> from crossheaps.scripts import check, read_script, show_script
>>> rows = read_script('let x = record counted 2 then bye\nx.0 = -7\nproc bye y\nsay y\nend')
>>> [rows[0], rows[1], check(rows), show_script(rows[2:])]
[('let', 'x', '=', 'record', 'counted', '2', 'then', 'bye'), ('x.0', '=', '-7'), None, 'proc bye y\nsay y\nend']
## 4
>>> from crossheaps.scripts import check, read_script
>>> check(read_script('if x is none\nelse\nelse\nend\ndo p'))
raises BadBlock(row=2)
## 4
>>> from crossheaps.scripts import read_script
>>> read_script('let x = 1\nlet y = -0')
raises BadRow(row=1)
## 5
>>> from crossheaps.machine import Machine
>>> machine = Machine()
>>> events = machine.told('let a = record counted 1\nlet t = record traced 0\na.0 = t\nsay a.0\ndrop t\ndrop a')
>>> [events, machine.told('minor'), machine.present, machine.next_number]
[(('page', 0, 'young'), ('say', '#1'), ('free', 0)), (('minor',), ('free', 1), ('back', 0)), (), 2]
## 5
>>> from crossheaps.machine import Machine
>>> machine = Machine()
>>> events = machine.told('let m = map counted\nlet b = record traced 2\nm at b = 7\nlet x = m at b')
>>> [machine.variables, machine[0], machine.count_of(0), machine.age_of(1), machine.place_of(1), 1 in machine]
[(('b', ('#', 1)), ('m', ('#', 0)), ('x', 7)), ('counted', 'map', ((1, 7),)), 1, 0, (0, 0), True]
## 5
>>> from crossheaps.machine import Machine
>>> Machine().told('let b = record traced 2\nb.2 = b\nsay b')
raises Fault(word='slot', row=1)
## 6
>>> from crossheaps.machine import Machine
>>> machine = Machine()
>>> events = machine.told('let c = record counted 0\nlet t = record traced 1\nt.0 = c\nt.0 = none\ndrop c')
>>> [machine.count_of(0), machine.proxy_of(0), machine.candidates, machine.told('minor')]
[1, 0, (0,), (('minor',), ('unproxy', 0), ('free', 0))]
## 6
>>> from crossheaps.machine import Machine
>>> Machine().told('let m = map counted\nlet k = record counted 0\nlet v = record counted 0\nm at k = v\ndrop v\ndrop k')
(('unkey', 0, 1), ('free', 1), ('free', 2))
## 7
>>> from crossheaps.machine import Machine
>>> machine = Machine()
>>> events = machine.told('proc bye x\nsay x\nend\nlet a = record traced 1 then bye\nlet b = record traced 0 then bye\na.0 = b\ndrop a\ndrop b\nminor')
>>> [events, machine.told('finalize\nminor')]
[(('page', 0, 'young'), ('minor',), ('queue', 0)), (('close', 0), ('say', '#0'), ('minor',), ('queue', 1), ('free', 0), ('old', 1), ('page', 1, 'old'), ('move', 1, 1, 0), ('back', 0))]
## 8
>>> from crossheaps.machine import Machine
>>> Machine().told('let t = record traced 1\nlet u = record traced 0\nt.0 = u\ndrop u\nminor\nt.0 = none\nminor')
(('page', 0, 'young'), ('minor',), ('minor',), ('free', 1), ('old', 0), ('page', 1, 'old'), ('move', 0, 1, 0), ('back', 0))
## 9
>>> from crossheaps.machine import Machine
>>> machine = Machine()
>>> made = machine.told('let a = record counted 2\na.0 = a\nlet b = record counted 1\na.1 = b\nlet w = weak counted b\npin b\ndrop b\ndrop a')
>>> [machine.candidates, machine.told('rings 1'), machine.candidates, machine.told('rings 1'), machine.present]
[(1, 0), (('rings',),), (0,), (('rings',), ('free', 0)), (1, 2)]
## 10
>>> from crossheaps.machine import Machine
>>> machine = Machine()
>>> events = machine.told('let a = record counted 1\nlet t = record traced 1\na.0 = t\nt.0 = a\ndrop a\ndrop t')
>>> [machine.told('rings 9\nminor'), machine.told('begin\nslice 1')]
[(('rings',), ('minor',)), (('minor',), ('old', 1), ('page', 1, 'old'), ('move', 1, 1, 0), ('back', 0), ('begin',), ('finish',), ('free', 0), ('free', 1), ('back', 1))]
## 10
>>> from crossheaps.machine import Machine
>>> machine = Machine()
>>> events = machine.told('let t = record traced 0\nlet w = weak traced t\nminor\nminor\ndrop t\nbegin')
>>> [machine.kept, machine.told('let y = get w'), machine.kept, machine.cycle, machine.told('slice 1'), machine.told('slice 1')]
[(1,), (), (0, 1), (2, 0), (), (('finish',),)]
## 11
>>> from crossheaps.machine import Machine
>>> Machine().told('proc bye x\nsay x\nend\nlet a = record counted 1 then bye\ndrop a\nsettle')
(('queue', 0), ('close', 0), ('say', '#0'), ('free', 0), ('minor',), ('begin',), ('finish',), ('minor',), ('begin',), ('finish',))
## 11
>>> from crossheaps.machine import Machine
>>> Machine(limit=2).told('let a = record counted 1\nlet b = record counted 1\na.0 = b\nb.0 = a\ndrop a\ndrop b\nlet c = map traced')
(('minor',), ('begin',), ('finish',), ('free', 0), ('free', 1), ('minor',), ('begin',), ('finish',), ('page', 0, 'young'))
## 12
>>> from crossheaps.pages import emptied
>>> [emptied(((1, 6, False), (2, 1, False), (4, 5, True)), 9), emptied(((1, 2, False), (2, 1, False), (4, 2, False)), 9), emptied(((1, 2, False), (2, 1, False), (4, 2, False)), 2)]
[(2,), (1, 2), (2,)]
## 12
>>> from crossheaps.machine import Machine
>>> machine = Machine()
>>> events = machine.told('let a = record traced 0\nminor\nminor')
>>> machine.pages
((1, 'old', (0, None, None, None, None, None, None, None)),)
## 13
>>> from crossheaps.lean import lean, least_limit
>>> from crossheaps.scripts import read_script, show_script
>>> text = 'let a = record counted 0\nsay a\nlet b = record counted 0\nsay b'
>>> slim = show_script(lean(read_script(text)))
>>> [slim.split('\n'), least_limit(text), least_limit(slim)]
[['let a = record counted 0', 'say a', 'drop a', 'let b = record counted 0', 'say b', 'drop b'], 2, 1]
## 13
>>> from crossheaps.lean import lean
>>> from crossheaps.scripts import read_script, show_script
>>> lines = 'let a = 1\nif a is 1\nsay 2\nelse\nsay 3\nend\nlet b = 5\nrepeat 2\nsay b\nend'
>>> show_script(lean(read_script(lines))).split('\n')
['let a = 1', 'if a is 1', 'drop a', 'say 2', 'else', 'drop a', 'say 3', 'end', 'let b = 5', 'repeat 2', 'say b', 'end', 'drop b']
## 14
>>> from crossheaps.machine import Machine
>>> from crossheaps.snapshots import snapshot
>>> machine = Machine()
>>> told = machine.told('let m = map traced\nlet k = record counted 1\nlet v = record traced 0\nm at k = v\ndrop v\nhold k\npin m')
>>> snapshot(machine)
((('hold 1', 1), ('k', 1), ('m', 0), ('pin 0', 0)), ((0, 'traced', 'map', ((1, 2),)), (1, 'counted', 'record', ()), (2, 'traced', 'record', ())))
## 14
>>> from crossheaps.snapshots import alive, links
>>> SHOT = ((('m', 0),), ((0, 'traced', 'map', ((0, 1), (1, 2), (2, 3))), (1, 'counted', 'record', ((5, 0),)), (2, 'traced', 'record', ()), (3, 'traced', 'weak', (2,))))
>>> [alive(SHOT), links(SHOT)]
[(0, 1, 2, 3), (('entry', 0, 0), ('entry', 0, 1), ('entry', 0, 2), ('root', 'm'), ('slot', 1, 5))]
## 15
>>> from crossheaps.reasons import cost, reason, shows_reason
>>> SNAP = ((('x', 0), ('y', 1)), ((0, 'traced', 'map', ((1, 2),)), (1, 'counted', 'record', ()), (2, 'counted', 'record', ())))
>>> [cost(SNAP, 0), cost(SNAP, 2), reason(SNAP, 1), shows_reason(SNAP, 2, ((1, ('root', 'y')), (0, ('root', 'x')), (2, ('entry', 0, 1))))]
[1, 3, ((1, ('root', 'y')),), True]
## 16
>>> from crossheaps.deaths import dies_with, dies_without, growth, keepers
>>> SHOT = ((('k', 1), ('m', 0)), ((0, 'traced', 'map', ((1, 2),)), (1, 'counted', 'record', ()), (2, 'traced', 'record', ((0, 3),)), (3, 'counted', 'record', ())))
>>> FIRST = ((('k', 1), ('m', 0)), ((0, 'traced', 'map', ()), (1, 'counted', 'record', ())))
>>> [dies_with(SHOT, 1), dies_with(SHOT, 2), dies_without(SHOT, ('root', 'm')), keepers(SHOT, 3), growth(FIRST, SHOT)]
[(1, 2, 3), (2, 3), (0, 2, 3), (0, 1, 2, 3), ((2, 0), (2, 1))]
## 16
>>> from crossheaps.deaths import dies_without
>>> SHOT = ((('k', 1), ('m', 0)), ((0, 'traced', 'map', ((1, 2),)), (1, 'counted', 'record', ()), (2, 'traced', 'record', ((0, 3),)), (3, 'counted', 'record', ())))
>>> dies_without(SHOT, ('root', 'k'), ('slot', 2, 1))
raises NoLink(value=('slot', 2, 1))
## 17
>>> from crossheaps.cuts import evidence, fewest_cuts
>>> SNAP = ((('x', 0), ('y', 1)), ((0, 'traced', 'map', ((1, 2),)), (1, 'counted', 'record', ()), (2, 'counted', 'record', ())))
>>> [fewest_cuts(SNAP, (2,)), fewest_cuts(SNAP, (2,), (('entry', 0, 1),)), fewest_cuts(SNAP, (1, 2)), evidence(SNAP, (2,))]
[(('entry', 0, 1),), (('root', 'x'),), (('root', 'y'),), (((('root', 'y'), ('entry', 0, 1)),), ((('root', 'x'), ('entry', 0, 1)),))]
## 17
>>> from crossheaps.cuts import evidence, fewest_cuts, shows_evidence
>>> SNAP = ((('x', 0), ('y', 1)), ((0, 'traced', 'map', ((1, 2),)), (1, 'counted', 'record', ()), (2, 'counted', 'record', ())))
>>> [fewest_cuts(SNAP, (2,), (('root', 'x'), ('root', 'y'), ('entry', 0, 1))), shows_evidence(SNAP, (2,), (), 2, evidence(SNAP, (2,)))]
[None, False]
## 18
>>> from crossheaps.texts import read_snapshot, show_snapshot
>>> SHOT = ((('k', 1), ('m', 0)), ((0, 'traced', 'map', ((1, 2),)), (1, 'counted', 'record', ()), (2, 'traced', 'record', ((0, 3),)), (3, 'counted', 'record', ())))
>>> [show_snapshot(SHOT).split('\n'), read_snapshot(show_snapshot(SHOT)) == SHOT, read_snapshot('')]
[['root k 1', 'root m 0', '0 traced map 1:2', '1 counted record', '2 traced record 0:3', '3 counted record'], True, ((), ())]
## 18
>>> from crossheaps.texts import read_snapshot
>>> read_snapshot('root k 1\n1 counted record 0:2')
raises BadText(row=2)
## 18
>>> from crossheaps.machine import Machine
>>> from crossheaps.states import resume, save
>>> machine = Machine()
>>> begun = machine.told('proc bye x\nsay x\nend\nlet a = record counted 0 then bye\ndrop a')
>>> other = resume(save(machine))
>>> [begun, other.queue, other.told('finalize'), machine.present]
[(('queue', 0),), (0,), (('close', 0), ('say', '#0'), ('free', 0)), (0,)]
## 19
>>> from crossheaps.console import Console
>>> console = Console()
>>> begun = console.say('run let a = record counted 1; let t = record traced 1; a.0 = t; t.0 = a; drop t')
>>> [begun, console.say('why 1'), console.say('cut 1'), console.say('run drop a; rings 1; minor')]
['page 0 young', '0<a 1<0.0', 'a', 'rings, minor']
## 19
>>> from crossheaps.console import Console
>>> console = Console()
>>> made = [console.say('run let a = record counted 2'), console.say('mark')]
>>> more = console.say('run let b = map counted; let c = record counted 0; a.0 = b; a.1 = c; b at c = c; drop b; drop c')
>>> [made, more, console.say('growth'), console.say('keepers 2'), console.say('why 2'), console.say('dies 1')]
[['-', 'done'], '-', '2:0', '0 2', '0<a 2<0.1', '1']
"""


def examples():
    """The examples as (number of the section, rows)."""
    found = []
    for row in EXAMPLES.strip().split("\n"):
        if row.startswith("## "):
            found.append((int(row[3:]), []))
        else:
            found[-1][1].append(row)
    return found


def outcome(rows):
    """What the last statement of an example gives, written as the document writes it."""
    space = {}
    for row in rows[:-1]:
        exec(row, space)
    try:
        return repr(eval(rows[-1], space))
    except Exception as error:
        told = ", ".join([f"{name}={value!r}" for name, value in vars(error).items()])
        return f"raises {type(error).__name__}({told})"


class TestExamples(unittest.TestCase):
    def test_number(self):
        sections = [section for section, _ in examples()]
        self.assertEqual(sections, SECTIONS)

    def test_each(self):
        for section, rows in examples():
            asked = [row[4:] for row in rows if row.startswith(">>> ")]
            given = [row for row in rows if not row.startswith(">>> ")]
            with self.subTest(section=section, rows=asked):
                self.assertEqual([outcome(asked)], given)


if __name__ == "__main__":
    unittest.main()
