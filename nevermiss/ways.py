"""The ways that are open at a leaf."""


class Ways:
    """What a question leaves where something is barred."""

    def __init__(self, question, barred):
        self.question = question
        self.barred = barred
        self._ends = {}
        self._moves = {}

    def is_end(self, place):
        """Whether a place has an end that is full and not barred."""
        pair = place >> self.question.flag_bits
        if pair not in self._ends:
            self._ends[pair] = self.question.lacking(pair, self.barred)
        lacking = self._ends[pair]
        return lacking is not None and place & lacking == lacking

    def ahead(self, place):
        """The ways (to, weight, signs, column) from a place on."""
        pair = place >> self.question.flag_bits
        if pair not in self._moves:
            self._moves[pair] = [(to, weight, signs, column)
                                 for to, events, weight, signs, column in self.question.moves(pair)
                                 if events & self.barred == 0]
        flags = place & self.question.all_flags
        if flags == 0:
            return self._moves[pair]
        return [(to | flags, weight, signs, column) for to, weight, signs, column in self._moves[pair]]


def way_back(steps, place):
    """The columns of the steps from a place back to a start, the last one first."""
    row = []
    while steps[place] is not None:
        place, column = steps[place]
        row.append(column)
    return row
