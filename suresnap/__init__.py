"""Suresnap: what late news of a server's commits proves of every key."""
