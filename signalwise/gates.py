"""Gates: the values of a net's gates in an instant, settled step by step, and a ring of gates that wait."""

NAMING_GATES = ("not", "all", "some")


def values(net, state, coming):
    return gates_settled(net, state, coming).known


def steps(net, state, coming):
    return gates_settled(net, state, coming).order


# A gate that waits has one that waits among its numbers, else it would be known: the way from one to the next never
# ends, so it comes back to where it was.
def ring(net, state, coming):
    known = gates_settled(net, state, coming).known
    if None not in known:
        return None
    gate = known.index(None)
    way = []
    places = {}
    while gate not in places:
        places[gate] = len(way)
        way.append(gate)
        gate = [number for number in net[0][gate][1] if known[number] is None][0]
    return way[places[gate]:]


# The order in which gates become known is the row of those that are still to be heard, too.
def gates_settled(net, state, coming):
    settler = Settler(net[0])
    rests = dict([(rest, True) for rest in state or []])
    signs = dict([(sign, True) for sign in coming])
    for number, gate in enumerate(net[0]):
        settler.learn(number, value_at_first(gate, state is None, rests, signs))
    heard = 0
    while heard < len(settler.order):
        settler.hand_on(settler.order[heard])
        heard = heard + 1
    return settler


def value_at_first(gate, starts, rests, signs):
    word = gate[0]
    if word == "start":
        return starts
    if word == "memory":
        return gate[1][0] in rests
    if word == "given":
        return gate[1][0] in signs
    return None if gate[1] else word == "all"


def namers_of(gates):
    namers = [[] for gate in gates]
    for number, gate in enumerate(gates):
        if gate[0] in NAMING_GATES:
            for named in gate[1]:
                namers[named].append(number)
    return namers


# A gate hears once of each of its numbers, so all is done in as many steps as there are numbers.
class Settler:
    def __init__(self, gates):
        self.gates = gates
        self.known = [None] * len(gates)
        self.order = []
        self.namers = namers_of(gates)
        self.unheard = [len(gate[1]) for gate in gates]

    def learn(self, gate, value):
        if self.known[gate] is None and value is not None:
            self.known[gate] = value
            self.order.append((gate, value))

    def hand_on(self, step):
        for namer in self.namers[step[0]]:
            self.hear(namer, step[1])

    # A some is told by one that is True, an all by one that is False; by the other truth where it is the last heard.
    def hear(self, gate, value):
        word = self.gates[gate][0]
        self.unheard[gate] = self.unheard[gate] - 1
        if word == "not":
            self.learn(gate, not value)
        elif value == (word == "some") or self.unheard[gate] == 0:
            self.learn(gate, value)
