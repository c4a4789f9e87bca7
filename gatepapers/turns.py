"""Programs run, turn by turn."""

from gatepapers.kinds import rows_of


def first_state(program, name):
    """The state with which a part begins."""
    return state_ahead(dict(program), name)


def turn(program, name, state, ins):
    """A tuple of the outs' numbers of a part, by its state and the ins' numbers, and its next state."""
    outs, after = part_turn(dict(program), name, state, ins)
    return ([value for value, width in outs.values()], after)


def run(program, rows):
    """The outs of the last part from its first state on, for each row of ins."""
    name, last = program[-1]
    state = first_state(program, name)
    found = []
    for ins in rows:
        outs, state = turn(program, name, state, ins)
        found.append(outs)
    return found


class Scene:
    """What names, rooms and outs of uses stand for in one part."""

    def __init__(self):
        # At a turn names, and each use's outs, have tuples (value, width); each rooms row's rooms the bit at tells.
        self.names = {}
        self.rooms = {}
        self.outs = {}


def stateful(rows):
    """The rows that have a thing in the state."""
    return [row for row in rows if row[0] in ("memory", "rooms", "use")]


def state_ahead(parts, name):
    """The first state of a part, with a dict of all parts' rows."""
    state = []
    for row in stateful(parts[name]):
        if row[0] == "memory":
            state.append(row[3])
        elif row[0] == "rooms":
            state.append(0)
        else:
            state.append(state_ahead(parts, row[2]))
    return state


def part_turn(parts, name, state, ins):
    """A turn of a part: a dict of its outs, values with their widths, and its next state."""
    rows = parts[name]
    before = dict(zip([row[1] for row in stateful(rows)], state))
    scene = scene_of(rows, before, ins)
    after = {}
    for row in rows:
        if row[0] == "wire":
            scene.names[row[1]] = valued(row[2], scene)
        elif row[0] == "use":
            handed = [valued(expression, scene)[0] for expression in row[3]]
            used, later = part_turn(parts, row[2], before[row[1]], handed)
            scene.outs[row[1]] = used
            after[row[1]] = later
    # All wires and uses are known only now, and memories and go rows may name any of them.
    for row in rows_of(rows, "memory"):
        after[row[1]] = valued(row[4], scene)[0]
    for row in rows_of(rows, "rooms"):
        goings = [going for going in rows_of(rows, "go") if going[1] == row[1]]
        after[row[1]] = next_room(row, before[row[1]], goings, scene)
    outs = {row[1]: valued(row[2], scene) for row in rows_of(rows, "out")}
    return (outs, [after[row[1]] for row in stateful(rows)])


def scene_of(rows, before, ins):
    """The scene as it stands ahead of the wires and uses."""
    scene = Scene()
    for row, value in zip(rows_of(rows, "in"), ins):
        scene.names[row[1]] = (value, row[2])
    for row in rows_of(rows, "memory"):
        scene.names[row[1]] = (before[row[1]], row[2])
    for row in rows_of(rows, "rooms"):
        scene.rooms[row[1]] = {room: 1 if k == before[row[1]] else 0 for k, room in enumerate(row[2])}
    return scene


def next_room(row, room, goings, scene):
    """The number of the room that a rooms row comes to from a room by its go rows."""
    for going in goings:
        if scene.rooms[row[1]][going[2]] == 1 and valued(going[4], scene)[0] == 1:
            return row[2].index(going[3])
    return room


def valued(expression, scene):
    """The value and the width of an expression."""
    word = expression[0]
    if word == "name":
        return scene.names[expression[1]]
    if word == "number":
        return (expression[2], expression[1])
    if word == "of":
        return scene.outs[expression[1]][expression[2]]
    if word == "at":
        return (scene.rooms[expression[1]][expression[2]], 1)
    value, width = valued(expression[1], scene)
    if word == "not":
        return (value ^ ones(width), width)
    if word == "cut":
        return ((value >> expression[2]) & ones(expression[3]), expression[3])
    if word == "if":
        return valued(expression[2] if value == 1 else expression[3], scene)
    other, above = valued(expression[2], scene)
    if word == "join":
        return (value | other << width, width + above)
    if word in ("same", "less"):
        return (compared(word, value, other), 1)
    return (reckoned(word, value, other) & ones(width), width)


def ones(width):
    """The number whose bits are all 1."""
    return (1 << width) - 1


def compared(word, value, other):
    """1 where two values are the same, or the first the lesser one, else 0."""
    holds = value == other if word == "same" else value < other
    return 1 if holds else 0


def reckoned(word, value, other):
    """What comes of two values of one width, perhaps past that width."""
    if word == "and":
        return value & other
    if word == "or":
        return value | other
    if word == "xor":
        return value ^ other
    if word == "plus":
        return value + other
    return value - other
