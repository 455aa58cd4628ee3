"""Playing against a foe: waiting past what is bad, offers and answers, what is won."""
