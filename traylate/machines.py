"""Machines: clerks with their registers and trays, the board, and the deeds that were done."""

from traylate.errors import NoMove
from traylate.programs import look_over
from traylate.steps import NAMES, REGISTERS, TOP, Add, Look, Put, Set, Skip, Swap, is_whole, step_of
from traylate.trays import tray_of


def steps_of(part):
    return tuple([step_of(told) for told in part])


def has_form_of_move(move):
    # Python holds ("do", True) and ("do", 1) for equal, so the kinds are asked as well.
    if not isinstance(move, tuple) or len(move) == 0 or not isinstance(move[0], str):
        return False
    return all([is_whole(part) for part in move[1:]])


def place_behind(step, place, regs):
    if isinstance(step, Skip) and regs[step.reg] == 0:
        return step.place
    return place + 1


class Machine:
    def __init__(self, program, kind="row"):
        look_over(program)
        self.trays = [tray_of(kind) for part in program]
        self.program = program
        self.kind = kind
        self.steps = tuple([steps_of(part) for part in program])
        self.places = [0 for part in program]
        self.counts = [0 for part in program]
        self.regs = [[0] * REGISTERS for part in program]
        self.cells = [0] * NAMES
        self.acts = []
        # For each name the deeds whose numbers came to the board.
        self.comers = [[] for name in range(NAMES)]

    def at_end(self, clerk):
        return self.places[clerk] == len(self.steps[clerk])

    def may_do(self, clerk):
        if self.at_end(clerk):
            return False
        step = self.steps[clerk][self.places[clerk]]
        return self.trays[clerk].is_empty() or not step.empties()

    def carries(self):
        found = []
        for clerk, tray in enumerate(self.trays):
            found.extend([("carry", clerk, name) for name in tray.fronts()])
        return found

    def moves(self):
        return [("do", clerk) for clerk in range(len(self.trays)) if self.may_do(clerk)] + self.carries()

    def do(self, move):
        if not has_form_of_move(move) or move not in self.moves():
            raise NoMove("this move may not be made")
        if move[0] == "do":
            self.do_step(move[1])
        else:
            self.carry(move[1], move[2])

    def do_step(self, clerk):
        step = self.steps[clerk][self.places[clerk]]
        regs = self.regs[clerk]
        if isinstance(step, Put):
            regs[step.reg] = step.number
        elif isinstance(step, Add):
            regs[step.reg] = (regs[step.reg] + regs[step.other]) % TOP
        elif isinstance(step, Set):
            self.do_set(clerk, step)
        elif isinstance(step, Look):
            self.do_look(clerk, step)
        elif isinstance(step, Swap):
            self.do_swap(clerk, step)
        self.places[clerk] = place_behind(step, self.places[clerk], regs)
        self.counts[clerk] += 1

    def do_set(self, clerk, step):
        gave = self.regs[clerk][step.reg]
        self.trays[clerk].add(step.name, gave, len(self.acts))
        self.acts.append(("set", clerk, step.name, None, gave, None))
        if self.kind == "none":
            self.carry(clerk, step.name)

    def do_look(self, clerk, step):
        setting = self.trays[clerk].latest(step.name)
        if setting is None:
            setting = self.on_board(step.name)
        self.acts.append(("look", clerk, step.name, setting[1], None, setting[2]))
        self.regs[clerk][step.reg] = setting[1]

    def do_swap(self, clerk, step):
        gave = self.regs[clerk][step.reg]
        setting = self.on_board(step.name)
        self.come((step.name, gave, len(self.acts)))
        self.acts.append(("swap", clerk, step.name, setting[1], gave, setting[2]))
        self.regs[clerk][step.reg] = setting[1]

    def carry(self, clerk, name):
        self.come(self.trays[clerk].take(name))

    def come(self, setting):
        name = setting[0]
        self.cells[name] = setting[1]
        self.comers[name].append(setting[2])

    def on_board(self, name):
        comers = self.comers[name]
        return (name, self.cells[name], None if len(comers) == 0 else comers[-1])

    def settle(self):
        made = []
        carries = self.carries()
        while len(carries) > 0:
            self.do(carries[0])
            made.append(carries[0])
            carries = self.carries()
        return made

    def ended(self):
        return all([self.at_end(clerk) and tray.is_empty() for clerk, tray in enumerate(self.trays)])

    def where(self, clerk):
        return self.places[clerk]

    def steps_done(self, clerk):
        return self.counts[clerk]

    def registers(self, clerk):
        return list(self.regs[clerk])

    def waiting(self, clerk):
        return self.trays[clerk].listed()

    def board(self):
        return list(self.cells)

    def deeds(self):
        return list(self.acts)

    def deeds_done(self):
        return len(self.acts)

    def deed_at(self, number):
        return self.acts[number]

    def over(self, name):
        return list(self.comers[name])

    def twin(self):
        # Made of an empty program at first: this machine's own was looked over already.
        other = Machine(((),), self.kind)
        other.program = self.program
        other.steps = self.steps
        other.trays = [tray.twin() for tray in self.trays]
        other.places = list(self.places)
        other.counts = list(self.counts)
        other.regs = [list(regs) for regs in self.regs]
        other.cells = list(self.cells)
        other.acts = list(self.acts)
        other.comers = [list(comers) for comers in self.comers]
        return other
