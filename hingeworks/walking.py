"""Models that are evaluated over planes, switch by switch."""


class Walk:
    """Where the evaluation of a model stands behind some answers.

    `results` are those of the features and of the lines that are done, in the order of the text; `plane` is that of
    the next switch, None if no switch is left. `answers` are those of the line that is not done.
    """

    def __init__(self, model, results, answers):
        self.model = model
        self.results = list(results)
        self.answers = answers
        self.plane = None
        first = len(model.features.names)
        while self.plane is None and len(self.results) < first + len(model.lines):
            line = model.lines[len(self.results) - first]
            self.plane, told = line.step(self.results, self.answers)
            if self.plane is None:
                self.results.append(told)
                self.answers = ()

    def answered(self, answer):
        """The walk behind one more answer; this one stays as it is."""
        return Walk(self.model, self.results, (*self.answers, answer))


class JointWalk:
    """Where the evaluation of several models, one after the other, stands behind some answers.

    `pairs` are the models with their letters. `told` are the results of the models that are done; `plane` is as for
    a walk.
    """

    def __init__(self, pairs, told, walk):
        self.pairs = pairs
        self.told = told
        self.walk = walk
        while self.walk.plane is None and len(self.told) < len(pairs):
            self.told = (*self.told, self.walk.results[-1])
            if len(self.told) < len(pairs):
                model, letters = pairs[len(self.told)]
                self.walk = begun(model, letters)
        self.plane = self.walk.plane

    def answered(self, answer):
        """The walk behind one more answer; this one stays as it is."""
        return JointWalk(self.pairs, self.told, self.walk.answered(answer))


def begun(model, letters):
    """The walk of a model before any answer; the letters are planes of one size that stand for the features."""
    return Walk(model, letters, ())


def begun_together(pairs):
    """The walk of several models before any answer; each is a pair of a model and its letters, all of one size."""
    model, letters = pairs[0]
    return JointWalk(pairs, (), begun(model, letters))
