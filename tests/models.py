"""Models that play moves, and that follow forms, in other ways than the package does."""

import itertools
import math

ENDS = ("top", "bottom")


class CardList:
    """A small pile as a plain list of [card, turned] that are moved one by one."""

    def __init__(self, size):
        self.cards = [[card, False] for card in range(size)]

    def at(self, end_place):
        end, depth = end_place
        return depth if end == "top" else len(self.cards) - 1 - depth

    def play(self, move):
        if len(self.cards) < model_reach(move):
            return
        getattr(self, "do_" + move[0])(*move[1:])

    def do_swap(self, one, other):
        first, second = self.at(one), self.at(other)
        self.cards[first], self.cards[second] = self.cards[second], self.cards[first]

    def do_carry(self, start, goal):
        card = self.cards.pop(self.at(start))
        end, depth = goal
        # "bottom" counts the cards that lie below the one that is put back.
        self.cards.insert(depth if end == "top" else len(self.cards) - depth, card)

    def do_cut(self, count):
        for step in range(count):
            self.cards.append(self.cards.pop(0))
        for step in range(-count):
            self.cards.insert(0, self.cards.pop())

    def do_turn(self, end, count):
        block = []
        for step in range(count):
            block.append(self.cards.pop(0 if end == "top" else -1))
        for card, turned in block:
            if end == "top":
                self.cards.insert(0, [card, not turned])
            else:
                self.cards.append([card, not turned])

    def do_over(self):
        self.do_turn("top", len(self.cards))

    def do_face(self, place):
        at = self.at(place)
        self.cards[at][1] = not self.cards[at][1]

    def images(self):
        """The list of (place, turned), where each card lies now."""
        images = [None] * len(self.cards)
        for place, (card, turned) in enumerate(self.cards):
            images[card] = (place, turned)
        return images


class RunPile:
    """A pile of any size as runs (first card, step, count, turned), which moves cut and join."""

    def __init__(self, size):
        self.size = size
        self.runs = [(0, 1, size, False)]

    def split(self, count):
        """The runs of the first count cards, and the others."""
        above, below = [], []
        for first, step, many, turned in self.runs:
            taken = max(0, min(many, count))
            count -= taken
            above.append((first, step, taken, turned))
            below.append((first + step * taken, step, many - taken, turned))
        return [run for run in above if run[2]], [run for run in below if run[2]]

    def at(self, end_place):
        end, depth = end_place
        return depth if end == "top" else self.size - depth - 1

    def take(self, place):
        """Take out one card, as a list of one run."""
        above, rest = self.split(place)
        self.runs = rest
        card, below = self.split(1)
        self.runs = above + below
        return card

    def put(self, card, place):
        above, below = self.split(place)
        self.runs = above + card + below

    def play(self, move):
        if self.size < model_reach(move):
            return
        name, *items = move
        if name == "swap":
            low, high = sorted(self.at(item) for item in items)
            if low != high:
                below, above = self.take(high), self.take(low)
                self.put(below, low)
                self.put(above, high)
        elif name == "carry":
            self.put(self.take(self.at(items[0])), self.at(items[1]))
        elif name == "cut":
            count = items[0] if items[0] >= 0 else self.size + items[0]
            above, below = self.split(count)
            self.runs = below + above
        elif name == "turn":
            above, below = self.split(items[1] if items[0] == "top" else self.size - items[1])
            self.runs = turned_over(above) + below if items[0] == "top" else above + turned_over(below)
        elif name == "over":
            self.runs = turned_over(self.runs)
        else:
            at = self.at(items[0])
            self.put(turned_over(self.take(at)), at)

    def find(self, card):
        """The pair (place, turned) of a card."""
        above = 0
        for first, step, many, turned in self.runs:
            if 0 <= (card - first) * step < many:
                return above + (card - first) * step, turned
            above += many
        raise AssertionError("the card is lost")


def turned_over(runs):
    return [(first + step * (many - 1), -step, many, not turned) for first, step, many, turned in reversed(runs)]


def model_reach(move):
    """The reach, as the greatest of all that the items of the move name."""
    named = [0]
    for item in move[1:]:
        if isinstance(item, tuple):
            named.append(item[1] + 1)
        elif isinstance(item, int):
            named.append(abs(item))
    return max(named)


def end_places(depths):
    return [(end, depth) for end in ENDS for depth in depths]


def moves_within(most):
    """Every move whose reach is at most a small number."""
    places = end_places(range(most))
    moves = [("over",)]
    moves += [(name, one, other) for name in ("swap", "carry") for one in places for other in places]
    moves += [("cut", count) for count in range(-most, most + 1)]
    moves += [("turn", end, count) for end in ENDS for count in range(most + 1)]
    moves += [("face", place) for place in places]
    return moves


def drawn_move(draw, most):
    """A move that is drawn by a seeded generator, with depths and blocks up to a bound."""
    name = draw.choice(("swap", "carry", "cut", "turn", "over", "face"))
    if name == "cut":
        return (name, draw.randint(-most, most))
    if name == "turn":
        return (name, draw.choice(ENDS), draw.randint(0, most))
    many = {"swap": 2, "carry": 2, "over": 0, "face": 1}[name]
    return (name, *[(draw.choice(ENDS), draw.randint(0, most - 1)) for item in range(many)])


def moved_one_by_one(moves, size):
    """The images of all places of a pile whose cards are moved one by one."""
    cards = CardList(size)
    for move in moves:
        cards.play(move)
    return cards.images()


def drawn_moves(draw, most_moves, most_reach, most_depth):
    """Drawn moves that make a word: as many as are drawn, and no more reach than is allowed."""
    moves, left = [], most_reach
    for trial in range(draw.randint(0, most_moves)):
        move = drawn_move(draw, draw.randint(1, most_depth))
        if model_reach(move) <= left:
            moves.append(move)
            left -= model_reach(move)
    return moves


def drawn_place(draw, size, near=450):
    """A place near an end, or anywhere."""
    depth = min(size - 1, draw.randint(0, near))
    return draw.choice((depth, size - 1 - depth, draw.randrange(size)))


def model_entry(parts, end_place):
    """Where a form with the parts (turned, shift, top, bottom) sends an end place, as point 8 says it."""
    turned, shift, top, bottom = parts
    end, depth = end_place
    if end == "top" and depth < len(top):
        return top[depth]
    if end == "bottom" and depth < len(bottom):
        return bottom[depth]
    if not turned:
        return ("top", depth + shift, False) if end == "top" else ("bottom", depth - shift, False)
    return ("bottom", depth - shift, True) if end == "top" else ("top", depth + shift, True)


def is_model_form(parts, near, far):
    """Whether parts with small tables send the end places one to one, as far as those up to a depth tell."""
    goals = [model_entry(parts, place)[:2] for place in end_places(range(far))]
    right = all(end in ENDS and depth >= 0 for end, depth in goals)
    return right and len(set(goals)) == len(goals) and set(end_places(range(near))) <= set(goals)


def model_parts(form):
    return form.turned, form.shift, form.top(), form.bottom()


def drawn_parts(draw, above, below):
    """The parts of a drawn form whose tables are passed with so many entries; they may not be normal."""
    turned = draw.random() < 0.5
    shift = draw.randint(-below, above) if turned else draw.randint(-above, below)
    # What the rules reach begins behind these depths, so the tables reach all that lies before them.
    at_top = below + shift if turned else above + shift
    at_bottom = above + below - at_top
    goals = [("top", depth) for depth in range(at_top)] + [("bottom", depth) for depth in range(at_bottom)]
    draw.shuffle(goals)
    entries = [(end, depth, draw.random() < 0.5) for end, depth in goals]
    return turned, shift, entries[:above], entries[above:]


def model_way(images, place):
    """The pairs (place, turned on leaving it) of the way of a place, by the images of all places."""
    way = [(place, images[place][1])]
    while images[way[-1][0]][0] != place:
        here = images[way[-1][0]][0]
        way.append((here, images[here][1]))
    return way


def model_length(way):
    """The pair (length, turned) of the pairs that model_way returns."""
    return len(way), sum(turned for place, turned in way) % 2 == 1


def model_census(images):
    """The ascending triples (length, turned, number of such ways)."""
    counted, seen = {}, set()
    for place in range(len(images)):
        if place not in seen:
            way = model_way(images, place)
            seen |= {here for here, turned in way}
            counted[model_length(way)] = counted.get(model_length(way), 0) + 1
    return sorted((length, turned, many) for (length, turned), many in counted.items())


def model_order(images):
    """The order, by the census."""
    return math.lcm(*[length * (2 if turned else 1) for length, turned, many in model_census(images)])


def model_even(images):
    """Whether an even number of pairs of places is put the other way round."""
    goals = [place for place, turned in images]
    return sum(one > other for one, other in itertools.combinations(goals, 2)) % 2 == 0


def one_round(states, images):
    """The pairs (place, turned) of all cards, one more round later."""
    return [(images[place][0], turned != images[place][1]) for place, turned in states]


def all_back(images):
    """The images of all places under the word that undoes one with these images."""
    back = [None] * len(images)
    for place, (goal, turned) in enumerate(images):
        back[goal] = (place, turned)
    return back


NAMED_WORDS = (
    "", "over", "cut 1", "cut -1", "cut 2", "cut -3", "cut 0", "face t0", "face b1", "swap t0 b0", "swap t0 t0", "swap t1 b2",
    "carry t0 b0", "carry t0 b1", "carry b2 t1", "turn t 3", "turn b 2", "turn t 0", "over; face t0", "over; cut 1",
    "over; cut -2", "cut 1; over", "cut 3; over; cut 1", "cut 2; face t0", "cut 1; face b0", "turn t 2; cut 1",
    "cut 2; cut -1; turn b 3", "swap t0 b3; cut -2; face t1", "cut 4; swap t0 t3", "over; swap t0 t2; face b1",
    "over; cut 3; turn t 2", "carry t3 b0; carry b1 t2", "turn t 4; turn b 4", "cut -4; carry t2 b2",
)

GREAT_REACH = (
    "cut 57; swap t1 b0; face t0", "cut -57; swap b1 t0; face b0", "cut 60", "cut -60", "turn t 60", "turn b 59; face t0",
    "over; cut 60", "cut 31; over; cut -29", "swap t59 b59", "carry t0 b59", "carry t29 b29; cut 30", "cut 30; face t29",
    "cut 20; turn t 40", "over; turn t 30; cut 30", "cut 7; turn b 50; swap t0 b2", "cut 36; cut -24",
)

# Moves that are many, and shifted by one or by few.
MANY_MOVES = (
    "; ".join(["cut 1", "face t0"] * 20), "; ".join(["over"] * 39 + ["cut 60"]), "; ".join(["carry t0 b0"] * 40),
    "; ".join(["swap t0 b0", "cut 1", "face b0", "over"] * 10), "; ".join(["turn t 2", "turn b 1"] * 20),
    "; ".join(["cut 2", "cut -1"] * 20), "; ".join(["over", "cut 1"] * 20), "; ".join(["over", "cut 3"] * 19 + ["over"]),
)
