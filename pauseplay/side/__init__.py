"""Two machines side by side, and what runs of both are for each."""
