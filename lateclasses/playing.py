"""How a run is performed: its beginning, and what each instruction does."""

from lateclasses.closing import complete
from lateclasses.errors import Failing
from lateclasses.loading import bind, check, load
from lateclasses.running import Report
from lateclasses.state import FIELD, METHOD
from lateclasses.words import element_of


def fail(kind):
    """Raise a failure of an instruction that tells nothing but its kind."""
    raise Failing((kind, (), ()))


class Frame:
    """A method that runs, with its registers."""

    def __init__(self, holder, method, given, target):
        self.holder = holder
        self.word = method.name
        self.program = method.code
        self.spots = list(given) + [None] * (method.size - len(given))
        self.at = 0
        # Where the caller wants the result.
        self.target = target

    def place_now(self):
        """Return the place of the next instruction."""
        return (self.holder[0], self.holder[1], self.word, self.at)


class Play:
    """A run on a state. Its outcome is None until it ends."""

    def __init__(self, state, choices, limit, most_calls):
        self.state = state
        self.choices = list(choices)
        self.limit = limit
        self.most_calls = most_calls
        self.frames = []
        self.said = []
        self.count = 0
        self.chosen = 0
        self.loaded_before = len(state.order)
        self.answer = None
        self.outcome = None

    def begin(self, loader, name, word, values):
        """Load the class of the run, make the object and enter the method."""
        try:
            holder, given = enter_run(self.state, loader, name, word, values)
            method = self.state.text_of(holder).method(word)
            self.state.commit()
            self.frames.append(Frame(holder, method, given, None))
        except Failing as error:
            self.state.undo()
            self.outcome = ("failed", error.failure, None)

    def goes_on(self):
        """Tell whether there is an instruction to be performed now; if not, the run ends."""
        if self.outcome is None and self.count >= self.limit:
            self.outcome = ("stopped",)
        if self.outcome is None and self.next_step()[0] == "choose" and self.chosen >= len(self.choices):
            self.outcome = ("starved",)
        return self.outcome is None

    def next_step(self):
        """Return the next instruction."""
        frame = self.frames[-1]
        return frame.program[frame.at]

    def shown(self):
        """Return the place of the next instruction, and what each register of its method holds."""
        frame = self.frames[-1]
        return (frame.place_now(), tuple([self.state.heap.text(value) for value in frame.spots]))

    def perform(self):
        """Perform the next instruction."""
        frame = self.frames[-1]
        step = frame.program[frame.at]
        place = frame.place_now()
        action = ACTIONS[step[0]]
        self.count += 1
        frame.at += 1
        try:
            action(self, frame, step, place)
            self.state.commit()
        except Failing as error:
            self.state.undo()
            self.outcome = ("failed", error.failure, place)

    def play(self):
        """Perform all instructions."""
        while self.goes_on():
            self.perform()

    def report(self):
        """Return the report of the run."""
        return Report(self.said, self.outcome, self.count, self.state.order[self.loaded_before:])


def enter_run(state, loader, name, word, values):
    """Do what a run begins with; return the class that has its method, and what the first registers hold."""
    identity = bind(state, loader, name)
    load(state, identity, ("run",))
    found = state.member(identity, METHOD, word)
    if found is None:
        fail("NoEntry")
    holder = found[0]
    given = [None if value is None else state.heap.kept[value] for value in values]
    require_fit(state, holder, state.text_of(holder).method(word).params, given)
    check(state, holder, word)
    complete(state)
    return (holder, [state.heap.make_object(identity)] + given)


def require_fit(state, holder, params, given):
    """Fail with Value unless the values of a run fit the types of the parameters."""
    if len(given) != len(params):
        fail("Value")
    for value, kind in zip(given, params):
        if value is not None and not (element_of(kind) is None and lies_below(state, value, holder[0], kind)):
            fail("Value")


def lies_below(state, value, loader, name):
    """Bind a name, if it has an identity, and tell whether an object or array lies below that."""
    if state.source(loader, name) is None:
        return False
    identity = bind(state, loader, name)
    return identity in state.chains[state.heap.class_of(value)]


def require_object(value):
    """Fail with Null if a value is null."""
    if value is None:
        fail("Null")


def do_new(play, frame, step, place):
    """A new object of class C."""
    state = play.state
    identity = bind(state, place[0], step[2])
    load(state, identity, ("new", place))
    complete(state)
    frame.spots[step[1]] = state.heap.make_object(identity)


def do_array(play, frame, step, place):
    """A new array."""
    frame.spots[step[1]] = play.state.heap.make_array(place[0], step[2], step[3])


def do_null(play, frame, step, place):
    """Null."""
    frame.spots[step[1]] = None


def do_move(play, frame, step, place):
    """What another register holds."""
    frame.spots[step[1]] = frame.spots[step[2]]


def require_field(state, loader, name, word, kind):
    """Fail with NoField unless the chain of a class name declares the field with this type."""
    found = state.member(state.meaning(loader, name), FIELD, word)
    if found is None or found[1] != (kind,):
        fail("NoField")


def do_get(play, frame, step, place):
    """What a field of an object is."""
    value = frame.spots[step[2]]
    require_object(value)
    require_field(play.state, place[0], step[3], step[4], step[5])
    frame.spots[step[1]] = play.state.heap.slot(value, step[4])


def do_put(play, frame, step, place):
    """A field of an object becomes a value."""
    value = frame.spots[step[1]]
    require_object(value)
    require_field(play.state, place[0], step[2], step[3], step[4])
    play.state.heap.fill(value, step[3], frame.spots[step[5]])


def require_method(state, identity, step):
    """Return the first class of a chain that declares the method of a call or ask; fail with NoMethod without one."""
    found = state.member(identity, METHOD, step[4])
    if found is None or found[1] != step[5] + (step[6],):
        fail("NoMethod")
    return found[0]


def enter(play, frame, step, holder):
    """Let a method run that is called."""
    if len(play.frames) >= play.most_calls:
        fail("Deep")
    state = play.state
    check(state, holder, step[4])
    complete(state)
    given = [frame.spots[spot] for spot in (step[2],) + step[7]]
    play.frames.append(Frame(holder, state.text_of(holder).method(step[4]), given, step[1]))


def do_call(play, frame, step, place):
    """Call a method of an object by its class."""
    state = play.state
    value = frame.spots[step[2]]
    require_object(value)
    require_method(state, state.meaning(place[0], step[3]), step)
    enter(play, frame, step, state.member(state.heap.class_of(value), METHOD, step[4])[0])


def do_ask(play, frame, step, place):
    """Call a method of an object by a mark."""
    state = play.state
    value = frame.spots[step[2]]
    require_object(value)
    mark = bind(state, place[0], step[3])
    identity = state.heap.class_of(value)
    if mark not in state.emblems[identity]:
        fail("NoMark")
    enter(play, frame, step, require_method(state, identity, step))


def do_cast(play, frame, step, place):
    """What another register holds, if that lies below C."""
    value = frame.spots[step[2]]
    if value is not None:
        if not lies_below(play.state, value, place[0], step[3]):
            fail("Cast")
        complete(play.state)
    frame.spots[step[1]] = value


def do_ifis(play, frame, step, place):
    """Jump if an object lies below C."""
    value = frame.spots[step[1]]
    if value is not None:
        below = lies_below(play.state, value, place[0], step[2])
        complete(play.state)
        if below:
            frame.at = step[3]


def require_element(heap, value, index):
    """Fail with Null or Index unless an array has an element of this index."""
    require_object(value)
    if index >= heap.many_of(value):
        fail("Index")


def do_load(play, frame, step, place):
    """What an element of an array is."""
    heap = play.state.heap
    value = frame.spots[step[2]]
    require_element(heap, value, step[3])
    frame.spots[step[1]] = heap.slot(value, step[3])


def do_store(play, frame, step, place):
    """An element of an array becomes a value."""
    state = play.state
    value, held = frame.spots[step[1]], frame.spots[step[3]]
    require_element(state.heap, value, step[2])
    if held is not None:
        loader, name = state.heap.home_of(value)
        if not lies_below(state, held, loader, name):
            fail("Store")
        complete(state)
    state.heap.fill(value, step[2], held)


def do_jump(play, frame, step, place):
    """Jump."""
    frame.at = step[1]


def do_ifnull(play, frame, step, place):
    """Jump if a register holds null."""
    if frame.spots[step[1]] is None:
        frame.at = step[2]


def do_choose(play, frame, step, place):
    """Jump if the next choice is true."""
    if play.choices[play.chosen]:
        frame.at = step[1]
    play.chosen += 1


def do_tell(play, frame, step, place):
    """Tell what a register holds."""
    play.said.append(play.state.heap.text(frame.spots[step[1]]))


def do_return(play, frame, step, place):
    """Give the caller the result, or end the run with it."""
    value = frame.spots[step[1]]
    play.frames.pop()
    if len(play.frames) > 0:
        play.frames[-1].spots[frame.target] = value
    else:
        play.answer = value
        play.outcome = ("returned", play.state.heap.text(value))


ACTIONS = {
    "new": do_new,
    "array": do_array,
    "null": do_null,
    "move": do_move,
    "get": do_get,
    "put": do_put,
    "call": do_call,
    "ask": do_ask,
    "cast": do_cast,
    "load": do_load,
    "store": do_store,
    "jump": do_jump,
    "ifnull": do_ifnull,
    "ifis": do_ifis,
    "choose": do_choose,
    "tell": do_tell,
    "return": do_return,
}
