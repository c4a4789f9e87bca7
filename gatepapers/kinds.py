"""Programs looked over: names, widths and weights."""

from gatepapers.errors import NoName, NoWidth, TooGreat, Twice

MOST_WIDTH = 8
MOST_WEIGHT = 200


def look_over(program):
    """Refuse a program by the first of four looks that finds a fault anywhere."""
    look_twice(program)
    look_names(program)
    shapes_of(program)
    look_weight(program)


def ins_of(program, name):
    """The ins of a part, a list of tuples (name, width)."""
    return ins_among(dict(program)[name])


def outs_of(program, name):
    """The outs of a part, a list of tuples (name, width)."""
    ins, outs = shapes_of(program)[name]
    return outs


def weight(program, name):
    """How heavy a part is, with all that it uses."""
    return weights_of(program)[name]


def rows_of(rows, word):
    """The rows that begin with a word."""
    return [row for row in rows if row[0] == word]


def ins_among(rows):
    """The ins that rows tell, with their widths."""
    return [(row[1], row[2]) for row in rows_of(rows, "in")]


def expressions_of(row):
    """The expressions that stand straight in a row."""
    if row[0] in ("in", "rooms"):
        return []
    if row[0] == "use":
        return list(row[3])
    return [row[-1]]


def inner_of(expression):
    """The expressions that stand straight within one."""
    if expression[0] in ("name", "number", "of", "at"):
        return []
    if expression[0] == "cut":
        return [expression[1]]
    return list(expression[1:])


def all_within(expressions):
    """Expressions and all those within them."""
    found = []
    for expression in expressions:
        found.append(expression)
        found.extend(all_within(inner_of(expression)))
    return found


# The first look: Twice.

def look_twice(program):
    """Refuse two things of one name."""
    refuse_twice([name for name, rows in program])
    for name, rows in program:
        # Ins, wires, memories, rooms rows and uses share their names; outs are by themselves.
        refuse_twice([row[1] for row in rows if row[0] in ("in", "wire", "memory", "rooms", "use")])
        refuse_twice([row[1] for row in rows_of(rows, "out")])
        for row in rows_of(rows, "rooms"):
            refuse_twice(row[2])


def refuse_twice(names):
    """Refuse names that are not all unlike."""
    if len(set(names)) < len(names):
        raise Twice("two things have one name")


# The second look: NoName.

def look_names(program):
    """Refuse names for which nothing stands."""
    outs_ahead = {}
    for name, rows in program:
        look_part_names(rows, outs_ahead)
        outs_ahead[name] = [row[1] for row in rows_of(rows, "out")]


def look_part_names(rows, outs_ahead):
    """Refuse such names in one part, given the names of the outs of each part ahead."""
    for row in rows_of(rows, "use"):
        if row[2] not in outs_ahead:
            raise NoName(f"no part {row[2]} stands ahead")
    rooms = {row[1]: row[2] for row in rows_of(rows, "rooms")}
    for row in rows_of(rows, "go"):
        refuse_room(rooms, row[1], row[2])
        refuse_room(rooms, row[1], row[3])
    for k, row in enumerate(rows):
        serving = rows[:k] if row[0] in ("wire", "use") else rows
        names = [old[1] for old in rows if old[0] in ("in", "memory")]
        names.extend([old[1] for old in rows_of(serving, "wire")])
        outs = {old[1]: outs_ahead[old[2]] for old in rows_of(serving, "use")}
        for expression in all_within(expressions_of(row)):
            refuse_name(expression, names, outs, rooms)


def refuse_room(rooms, name, room):
    """Refuse a room that there is not."""
    if name not in rooms or room not in rooms[name]:
        raise NoName(f"there is no room {room} in {name}")


def refuse_name(expression, names, outs, rooms):
    """Refuse an expression that names what does not serve; those within it are looked at by themselves."""
    if expression[0] == "name" and expression[1] not in names:
        raise NoName(f"there is no {expression[1]} here")
    if expression[0] == "of":
        if expression[1] not in outs or expression[2] not in outs[expression[1]]:
            raise NoName(f"there is no {expression[2]} of {expression[1]} here")
    if expression[0] == "at":
        refuse_room(rooms, expression[1], expression[2])


# The third look: NoWidth.

def shapes_of(program):
    """For each part's name a tuple of its ins and its outs with their widths; refused where one does not fit."""
    shapes = {}
    for name, rows in program:
        shapes[name] = shape_of(rows, shapes)
    return shapes


def shape_of(rows, shapes):
    """The ins and outs of one part with their widths, given those of the parts ahead."""
    widths = {}
    for row in rows:
        if row[0] in ("in", "memory"):
            refuse_width(row[2])
            widths[row[1]] = row[2]
    outs = {row[1]: dict(shapes[row[2]][1]) for row in rows_of(rows, "use")}
    # Memories and outs may name wires of rows behind them, so the wires come ahead of all else.
    for row in rows_of(rows, "wire"):
        widths[row[1]] = width_of(row[2], widths, outs)
    for row in rows_of(rows, "memory"):
        refuse_number(row[2], row[3])
        refuse_unlike([width_of(row[4], widths, outs)], [row[2]])
    for row in rows_of(rows, "go"):
        refuse_unlike([width_of(row[4], widths, outs)], [1])
    for row in rows_of(rows, "use"):
        handed = [width_of(expression, widths, outs) for expression in row[3]]
        refuse_unlike(handed, [width for name, width in shapes[row[2]][0]])
    return (ins_among(rows), [(row[1], width_of(row[2], widths, outs)) for row in rows_of(rows, "out")])


def refuse_width(width):
    """Refuse a width that is none."""
    if width < 1 or width > MOST_WIDTH:
        raise NoWidth(f"{width} is no width")


def refuse_number(width, number):
    """Refuse a number that its width can't hold."""
    if number >= 1 << width:
        raise NoWidth(f"{number} is not below 2 to the {width}")


def refuse_unlike(widths, wanted):
    """Refuse widths that are not those wanted, or not as many."""
    if widths != wanted:
        raise NoWidth(f"the widths are {widths}, not {wanted}")


def width_of(expression, widths, outs):
    """How wide an expression is, by the widths of names and of the outs of each use."""
    word = expression[0]
    if word == "name":
        return widths[expression[1]]
    if word == "number":
        refuse_width(expression[1])
        refuse_number(expression[1], expression[2])
        return expression[1]
    if word == "of":
        return outs[expression[1]][expression[2]]
    if word == "at":
        return 1
    inner = [width_of(one, widths, outs) for one in inner_of(expression)]
    if word == "not":
        return inner[0]
    if word == "cut":
        return cut_width(inner[0], expression[2], expression[3])
    return width_over(word, inner)


def cut_width(width, low, many):
    """How wide a cut is: as many bits as it takes, which must be there."""
    if many < 1 or low + many > width:
        raise NoWidth(f"{many} bits from bit {low} on are no cut of {width}")
    return many


def width_over(word, inner):
    """How wide an expression of two or three others is, by their widths."""
    if word == "join":
        refuse_width(inner[0] + inner[1])
        return inner[0] + inner[1]
    if word == "if":
        refuse_unlike([inner[0]], [1])
    # The last two are to be alike; an if has its C ahead of them.
    refuse_unlike([inner[-2]], [inner[-1]])
    return 1 if word in ("same", "less") else inner[-1]


# The fourth look: TooGreat.

def look_weight(program):
    """Refuse a last part that is too heavy."""
    for name, rows in program[-1:]:
        if weight(program, name) > MOST_WEIGHT:
            raise TooGreat(f"the last part weighs more than {MOST_WEIGHT}")


def weights_of(program):
    """For each part's name its weight: rows, expressions, and the weights of all uses."""
    weights = {}
    for name, rows in program:
        heavy = len(rows)
        for row in rows:
            heavy += len(all_within(expressions_of(row)))
        for row in rows_of(rows, "use"):
            heavy += weights[row[2]]
        weights[name] = heavy
    return weights
