"""A street without end whose houses are all alike but a few."""
